"""The least round of a net and the rate of a going, each with a paper that shows it, and the checkers of papers."""

from ringbeat.nets import leads_to
from ringbeat.ratios import minus, plus, ratio, under
from ringbeat.rounds import fits, is_kept, is_ring, mean, times_or_ring_along


def ring_above(net, pace, numbers):
    found = times_or_ring_along(net, pace, numbers)
    return found[1] if found[0] == "ring" else None


def midway(one, other):
    total = plus(one, other)
    return ratio(total[0], total[1] * 2)


# The means of two rings that aren't the same lie at least this far apart, as no ring's behinds come to more than most.
def least_gap(net):
    most = len(net.names) * net.most_behind()
    return ratio(1, most * most)


# Halving keeps the count of steps small on every net; going from ring to ring alone could take very many.
def greatest_ring(net, numbers):
    # No time is below 0, so every ring's mean lies above -1.
    ring = ring_above(net, (-1, 1), numbers)
    if ring is None:
        return None
    ceiling = (sum([net.arrows[number].time for number in numbers]), 1)
    gap = least_gap(net)
    while not under(minus(ceiling, mean(net, ring)), gap):
        middle = midway(mean(net, ring), ceiling)
        better = ring_above(net, middle, numbers)
        if better is None:
            ceiling = middle
        else:
            ring = better
    return ring


def paper_along(net, numbers):
    ring = greatest_ring(net, numbers)
    if ring is None:
        return None
    pace = mean(net, ring)
    return (pace, ring, times_or_ring_along(net, pace, numbers)[1])


def least_round(net):
    return paper_along(net, list(range(len(net.arrows))))


# What leads to a going's start leads to the going too, so these arrows are a net of their own.
def rate(net, going):
    leading = leads_to(net, going)
    paper = paper_along(net, [number for number, arrow in enumerate(net.arrows) if arrow.goal in leading])
    if paper is None:
        return None
    times = [time if place in leading else None for place, time in enumerate(paper[2])]
    return (paper[0], paper[1], times)


def has_mean(net, ring, pace):
    return is_ring(net, ring) and mean(net, ring) == pace


def holds(net, paper):
    return has_mean(net, paper[1], paper[0]) and fits(net, paper[0], paper[2])


def holds_at(net, going, paper):
    pace = paper[0]
    ring = paper[1]
    times = paper[2]
    leading = leads_to(net, going)
    # All goings of a ring lead to one another, so one of them stands for all.
    if not has_mean(net, ring, pace) or net.arrows[ring[0]].goal not in leading:
        return False
    timed = [place for place, time in enumerate(times) if time is not None]
    if len(times) != len(net.names) or timed != leading:
        return False
    return all([is_kept(arrow, pace, times) for arrow in net.arrows if arrow.goal in leading])
