"""What several tests share: nets written short, nets drawn from a seed, and slow, plain ways to reckon."""

from fractions import Fraction
from random import Random

from ringbeat.arrows import Back, Ride, Wait
from ringbeat.nets import Net
from ringbeat.tables import Table

MOST_TIME = 10 ** 9


def names(many):
    return [f"g{number}" for number in range(many)]


def net_of(many, parts):
    """A net of waits, each told as (start, goal, time, behind)."""
    return Net(names(many), [Wait(*part) for part in parts])


def any_arrow(chance, start, goal, time, behind):
    if behind == 0:
        return chance.choice((Ride(start, goal, time), Wait(start, goal, time)))
    return chance.choice((Wait, Back))(start, goal, time, behind)


def draw_net(seed, goings, arrows, most_time=9, most_behind=4, tied=False):
    """A net that isn't stuck; where tied, an arrow leads into each going."""
    chance = Random(seed)
    place = list(range(goings))
    chance.shuffle(place)
    found = []
    for number in range(arrows):
        start = chance.randrange(goings)
        goal = number if tied and number < goings else chance.randrange(goings)
        least = 0 if place[start] < place[goal] else 1
        behind = chance.randint(least, max(least, most_behind))
        found.append(any_arrow(chance, start, goal, chance.randint(0, most_time), behind))
    return Net(names(goings), found)


def drawn_nets(count, most_goings=6, most_arrows=10, **more):
    for seed in range(count):
        chance = Random(f"size {seed}")
        goings = chance.randint(1, most_goings)
        arrows = chance.randint(goings if more.get("tied") else 0, max(goings, most_arrows))
        yield seed, draw_net(seed, goings, arrows, **more)


def great_net(seed, most_time=MOST_TIME):
    return draw_net(seed, 40, 120, most_time=most_time, tied=True)


def parts(net):
    return [(type(arrow), arrow.start, arrow.goal, arrow.time, arrow.behind) for arrow in net.arrows]


def draw_was(seed, net, more=0, nevers=True, most=30):
    chance = Random(f"was {seed}")
    rows = []
    for number in range(net.most_behind() + more):
        row = [chance.randint(-most, most) for name in net.names]
        if nevers:
            row = [None if chance.random() < 0.3 else time for time in row]
        rows.append(row)
    return rows


def draw_floors(seed, net, rounds, most=60):
    chance = Random(f"floors {seed}")
    return [
        (chance.randrange(len(net.names)), chance.randrange(rounds + 3), chance.randint(-most, most))
        for number in range(chance.randint(0, 8))
    ]


def slow_time(net, going, number, was, floors):
    """The greatest sum of a way that ends there, by trying all of them."""
    if number < 0:
        return 0 if was is None else was[-1 - number][going]
    sums = [time for place, at, time in floors if (place, at) == (going, number)]
    for arrow in net.arrows:
        if arrow.goal == going:
            ahead = slow_time(net, arrow.start, number - arrow.behind, was, floors)
            if ahead is not None:
                sums.append(ahead + arrow.time)
    return max(sums, default=None)


def all_rings(net):
    """Each ring once, beginning with an arrow out of its least going."""
    found = []

    def go_on(first, here, way, seen):
        for number, arrow in enumerate(net.arrows):
            if arrow.start == here and arrow.goal == first:
                found.append(way + [number])
            elif arrow.start == here and arrow.goal > first and arrow.goal not in seen:
                go_on(first, arrow.goal, way + [number], seen + [arrow.goal])

    for first in range(len(net.names)):
        go_on(first, first, [], [first])
    return found


def slow_mean(net, ring):
    times = sum(net.arrows[number].time for number in ring)
    behinds = sum(net.arrows[number].behind for number in ring)
    return Fraction(times, behinds)


def as_fraction(pair):
    return Fraction(pair[0], pair[1])


def as_pair(fraction):
    return (fraction.numerator, fraction.denominator)


def is_pair(value):
    """Whether it is a fraction in the form that is promised: a tuple in lowest terms with a bottom from 1 on."""
    if type(value) is not tuple or [type(part) for part in value] != [int, int] or value[1] < 1:
        return False
    return as_pair(Fraction(value[0], value[1])) == value


def is_way(net, way, start, goal):
    here = start
    for number in way:
        if net.arrows[number].start != here:
            return False
        here = net.arrows[number].goal
    return here == goal


def draw_table(seed, goings, arrows, beat=12, most_slack=4, kinds=(Ride, Wait, Back), scale=1):
    """A table whose arrows have small slacks, many of them 0; all amounts are taken scale times."""
    chance = Random(f"table {seed}")
    times = [chance.randint(0, 2 * beat) * scale for number in range(goings)]
    found = []
    while len(found) < arrows:
        start, goal = chance.randrange(goings), chance.randrange(goings)
        behind = chance.randint(0 if (times[start], start) < (times[goal], goal) else 1, 4)
        time = times[goal] + beat * scale * behind - times[start] - chance.choice((0, 0, chance.randint(0, most_slack)))
        fitting = [kind for kind in kinds if kind is Wait or (kind is Ride) == (behind == 0)]
        if time >= 0 and fitting:
            kind = chance.choice(fitting)
            found.append(Ride(start, goal, time) if kind is Ride else kind(start, goal, time, behind))
    return Table(Net(names(goings), found), times, beat * scale)


def drawn_tables(count, most_goings=5, most_arrows=8, **more):
    for seed in range(count):
        chance = Random(f"table size {seed}")
        goings = chance.randint(1, most_goings)
        yield seed, draw_table(seed, goings, chance.randint(0, most_arrows), **more)


def draw_puts(seed, table, rounds, most=12, many=4):
    chance = Random(f"puts {seed}")
    return [
        (chance.randrange(len(table.times)), chance.randrange(rounds), chance.randint(0, most))
        for number in range(chance.randint(0, many))
    ]


def tight_rings(table):
    return [ring for ring in all_rings(table.net) if all(table.slack(number) == 0 for number in ring)]
