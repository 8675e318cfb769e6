"""Whether two nets are alike: the steps of a net, and a step by which two nets part."""

from ringbeat.errors import Unlike
from ringbeat.ratios import later, latest


# Taken in an order of the net, a going's sum is done before anything goes on from it.
def sums_within_round(net, going, order):
    sums = [None] * len(net.names)
    sums[going] = 0
    for here in order:
        for arrow in net.arrows:
            if arrow.behind == 0 and arrow.start == here:
                sums[arrow.goal] = latest(sums[arrow.goal], later(sums[here], arrow.time))
    return sums


def steps(net):
    order = net.order()
    sums = [sums_within_round(net, going, order) for going in range(len(net.names))]
    greatest = {}
    for arrow in net.arrows:
        if arrow.behind > 0:
            for goal, more in enumerate(sums[arrow.goal]):
                if more is not None:
                    key = (arrow.behind, arrow.start, goal)
                    greatest[key] = latest(greatest.get(key), arrow.time + more)
    return greatest


def parted(one, other):
    if len(one.names) != len(other.names):
        raise Unlike()
    here = steps(one)
    there = steps(other)
    for key in sorted(list(here) + list(there)):
        if here.get(key) != there.get(key):
            return key
    return None
