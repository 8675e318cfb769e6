"""Waits given up: the fewest without which a going isn't late in a round."""

from ringbeat.errors import TooMany
from ringbeat.late import late

MOST_WAITS = 8


# Rising each, as the waits are, and those with fewer waits first.
def sets_of(waits):
    sets = [[]]
    for wait in waits:
        sets = sets + [chosen + [wait] for chosen in sets]
    return sorted(sets, key=len)


def is_late(table, puts, going, beat, without):
    return late(table, beat + 1, puts, without)[beat][going] > 0


def give_up(table, puts, going, beat):
    waits = [number for number, arrow in enumerate(table.net.arrows) if arrow.may_drop()]
    if len(waits) > MOST_WAITS:
        raise TooMany(len(waits))
    # Giving up more never makes later, so where all waits don't help none of the sets does.
    if is_late(table, puts, going, beat, waits):
        return None
    for chosen in sets_of(waits):
        if not is_late(table, puts, going, beat, chosen):
            return chosen
    return None
