"""What comes again: from which round on, behind how many rounds and by which lengths, with a checker."""

from ringbeat.errors import Loose
from ringbeat.runs import run


def growth(rows, first, count):
    return [after - before for before, after in zip(rows[first], rows[first + count])]


def grows_so(rows, first, last, count, lengths):
    return all([growth(rows, number, count) == lengths for number in range(first, last + 1)])


def never_outgrown(net, lengths):
    return all([lengths[arrow.start] <= lengths[arrow.goal] for arrow in net.arrows])


def is_carried(rows, carriers, going, number):
    for arrow in carriers:
        if rows[number - arrow.behind][arrow.start] + arrow.time == rows[number][going]:
            return True
    return False


# An arrow whose start has a lesser length falls short in the end, however things stand now, and carries nothing on.
def all_carried(net, rows, first, last, lengths):
    for going in range(len(net.names)):
        entering = [net.arrows[number] for number in net.into(going)]
        carriers = [arrow for arrow in entering if lengths[arrow.start] == lengths[going]]
        for number in range(first, last + 1):
            if not is_carried(rows, carriers, going, number):
                return False
    return True


def goes_on(net, rows, paper):
    count = paper[0]
    first = paper[1]
    lengths = paper[2]
    settled = first + net.most_behind()
    if count < 1 or first < 0 or len(lengths) != len(net.names) or len(rows) < settled + count:
        return False
    if not grows_so(rows, first, settled - 1, count, lengths) or not never_outgrown(net, lengths):
        return False
    return all_carried(net, rows, settled, settled + count - 1, lengths)


def refuse_loose(net):
    for going in range(len(net.names)):
        if net.into(going) == []:
            raise Loose(going)


# From a round on from which it comes again for ever, going back is only a matter of looking at the rows.
def earliest_round(rows, known, count, lengths):
    first = known
    while first > 0 and growth(rows, first - 1, count) == lengths:
        first -= 1
    return first


# What comes again from one round on does so from each later one, so for each count the last round that the rows let
# be looked at decides.
def comes_again(net, most, was=None):
    refuse_loose(net)
    rows = run(net, most, was)
    spare_rounds = most - net.most_behind()
    for count in range(1, spare_rounds + 1):
        last = spare_rounds - count
        lengths = growth(rows, last, count)
        if goes_on(net, rows, (count, last, lengths)):
            return (count, earliest_round(rows, last, count, lengths), lengths)
    return None
