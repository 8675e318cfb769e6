"""The run of a net: the time of each going, round by round."""

from ringbeat.ratios import later, latest


# Floors, and whatever else is told as (going, round, amount): of several in one place the greatest counts.
def greatest_told(told):
    greatest = {}
    for going, number, amount in told:
        greatest[(going, number)] = latest(greatest.get((going, number)), amount)
    return greatest


# Oldest first, so that the rows of the run go on behind them and a behind counts back from the end.
def rows_ahead(net, was):
    depth = net.most_behind()
    if was is None:
        return [[0] * len(net.names) for number in range(depth)]
    return [list(row) for row in reversed(was[:depth])]


# The last row is the one that is being made, so a behind of b is met b rows ahead of it.
def time_in_last_row(net, rows, numbers, floor):
    when = floor
    for number in numbers:
        arrow = net.arrows[number]
        when = latest(when, later(rows[-1 - arrow.behind][arrow.start], arrow.time))
    return when


# The row of round k stands at k and the net's greatest behind, as what was stands ahead of round 0.
def rows_with_past(net, rounds, was, floors):
    rows = rows_ahead(net, was)
    greatest = greatest_told([] if floors is None else floors)
    numbers = [net.into(going) for going in range(len(net.names))]
    order = net.order()
    for number in range(rounds):
        rows.append([None] * len(net.names))
        for going in order:
            floor = greatest.get((going, number))
            rows[-1][going] = time_in_last_row(net, rows, numbers[going], floor)
    return rows


def run(net, rounds, was=None, floors=None):
    return rows_with_past(net, rounds, was, floors)[net.most_behind():]
