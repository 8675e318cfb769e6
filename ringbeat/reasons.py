"""The reason of a time in a run: a way of arrows from what was or from a floor."""

from ringbeat.ratios import later
from ringbeat.runs import greatest_told, rows_with_past


# Asked only of a time that isn't never and is no floor's: then one of the arrows brings just that time.
def deciding_arrow(net, rows, going, place):
    for number in net.into(going):
        arrow = net.arrows[number]
        if later(rows[place - arrow.behind][arrow.start], arrow.time) == rows[place][going]:
            return number
    return None


def reason(net, going, number, was=None, floors=None):
    rows = rows_with_past(net, number + 1, was, floors)
    if rows[-1][going] is None:
        return None
    greatest = greatest_told([] if floors is None else floors)
    depth = net.most_behind()
    here = going
    at = number
    way = []
    # The walk back ends, as no ring has behind 0; it stops at the first round below 0, where times are just told.
    while at >= 0 and greatest.get((here, at)) != rows[depth + at][here]:
        step = deciding_arrow(net, rows, here, depth + at)
        way.append(step)
        here = net.arrows[step].start
        at -= net.arrows[step].behind
    return ("was" if at < 0 else "floor", here, at, list(reversed(way)))
