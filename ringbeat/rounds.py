"""Rings and their means, and timetables for a round: of these there is always the one or the other."""

from ringbeat.nets import ring_back_from
from ringbeat.ratios import minus, plus, ratio, scaled, under


def is_ring(net, ring):
    if len(ring) == 0 or min(ring) < 0 or max(ring) >= len(net.arrows):
        return False
    starts = [net.arrows[number].start for number in ring]
    goals = [net.arrows[number].goal for number in ring]
    # The goals turned about by one: each arrow starts where the one ahead ends, the first one where the last one ends.
    return starts == goals[-1:] + goals[:-1] and len(set(goals)) == len(goals)


def mean(net, ring):
    times = sum([net.arrows[number].time for number in ring])
    behinds = sum([net.arrows[number].behind for number in ring])
    return ratio(times, behinds)


def is_kept(arrow, pace, times):
    earliest = minus(plus(times[arrow.start], (arrow.time, 1)), scaled(pace, arrow.behind))
    return not under(times[arrow.goal], earliest)


def fits(net, pace, times):
    if len(times) != len(net.names):
        return False
    return all([is_kept(arrow, pace, times) for arrow in net.arrows])


# All is reckoned times the bottom of the round, so that it stays whole. Both times and chosen are moved on in place.
def push_once(net, pace, numbers, times, chosen):
    pushed = None
    for number in numbers:
        arrow = net.arrows[number]
        earliest = times[arrow.start] + arrow.time * pace[1] - arrow.behind * pace[0]
        if earliest > times[arrow.goal]:
            times[arrow.goal] = earliest
            chosen[arrow.goal] = number
            pushed = arrow.goal
    return pushed


# Without a ring whose mean is greater no way pushes through more arrows than there are goings but one, so the last
# push moves nothing. Else the arrows that pushed last lead back from the going moved into such a ring.
def times_or_ring_along(net, pace, numbers):
    times = [0] * len(net.names)
    chosen = {}
    pushed = None
    for count in range(len(net.names)):
        pushed = push_once(net, pace, numbers, times, chosen)
        if pushed is None:
            return ("times", [ratio(time, pace[1]) for time in times])
    return ("ring", ring_back_from(net.arrows, chosen, pushed))


def times_or_ring(net, pace):
    return times_or_ring_along(net, pace, list(range(len(net.arrows))))
