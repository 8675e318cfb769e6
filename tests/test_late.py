import copy
import unittest
from random import Random

from drawn import draw_puts, draw_table, drawn_tables, names, net_of, tight_rings
from ringbeat.late import fate, late, tight_ring
from ringbeat.nets import Net
from ringbeat.rounds import is_ring
from ringbeat.runs import run
from ringbeat.tables import Table

EXAMPLE_NET = net_of(2, [(0, 1, 4, 0), (1, 0, 4, 1)])
EXAMPLE = Table(EXAMPLE_NET, [0, 5], 10)
TIGHT = Table(EXAMPLE_NET, [0, 4], 8)


def slow_late(table, going, number, puts, without):
    if number < 0:
        return 0
    amounts = [0] + [amount for place, at, amount in puts if (place, at) == (going, number)]
    for step, arrow in enumerate(table.net.arrows):
        if arrow.goal == going and step not in without:
            ahead = slow_late(table, arrow.start, number - arrow.behind, puts, without)
            amounts.append(ahead - table.slack(step))
    return max(amounts)


def run_late(table, rounds, puts, without):
    """Lateness by way of the run, as point 6.3 tells it."""
    places = range(len(table.times))
    kept = [arrow for step, arrow in enumerate(table.net.arrows) if step not in without]
    was = [[table.planned(going, -number) for going in places] for number in range(1, 5)]
    floors = [(going, k, table.planned(going, k)) for going in places for k in range(rounds)]
    floors += [(going, k, table.planned(going, k) + amount) for going, k, amount in puts]
    rows = run(Net(table.net.names, kept), rounds, was, floors)
    return [[row[going] - table.planned(going, k) for going in places] for k, row in enumerate(rows)]


class Late(unittest.TestCase):
    def test_example(self):
        self.assertEqual(late(EXAMPLE, 3, [(0, 0, 3)]), [[3, 2], [1, 0], [0, 0]])
        self.assertEqual(late(TIGHT, 3, [(0, 0, 3)]), [[3, 3], [3, 3], [3, 3]])

    def test_rounds(self):
        self.assertEqual(late(EXAMPLE, 0, [(0, 0, 3)]), [])
        self.assertEqual(late(EXAMPLE, 1, [(0, 0, 3)]), [[3, 2]])
        rows = late(EXAMPLE, 400, [(0, 0, 700)])
        self.assertEqual(rows, [[700 - 2 * k, 699 - 2 * k] for k in range(350)] + [[0, 0]] * 50)
        self.assertEqual(late(TIGHT, 400, [(0, 0, 10 ** 12)]), [[10 ** 12] * 2] * 400)

    def test_no_puts(self):
        self.assertEqual(late(EXAMPLE, 2, []), [[0, 0], [0, 0]])
        self.assertEqual(late(TIGHT, 2, [(0, 0, 0), (1, 1, 0)]), [[0, 0], [0, 0]])
        self.assertEqual(late(Table(Net(names(2), []), [0, 0], 0), 2, [(1, 1, 4)]), [[0, 0], [0, 4]])

    def test_several_puts_for_one_going_and_round(self):
        puts = [(0, 0, 2), (0, 0, 5), (0, 0, 3), (1, 0, 0)]
        for some in (puts, puts[::-1], puts[1:]):
            self.assertEqual(late(EXAMPLE, 2, some), [[5, 4], [3, 2]])

    def test_a_put_below_what_is_late_anyhow(self):
        self.assertEqual(late(EXAMPLE, 2, [(0, 0, 5), (1, 0, 3), (0, 1, 9)]), [[5, 4], [9, 8]])

    def test_puts_beyond_the_rounds_asked(self):
        self.assertEqual(late(EXAMPLE, 2, [(0, 2, 50), (1, 400, 9), (0, 10 ** 30, 1)]), [[0, 0], [0, 0]])

    def test_each_behind(self):
        for behind in (1, 2, 3, 4):
            table = Table(net_of(2, [(0, 1, 0, behind)]), [0, 0], 0)
            rows = late(table, 6, [(0, 0, 7)])
            self.assertEqual([row[1] for row in rows], [7 if k == behind else 0 for k in range(6)])

    def test_arrows_left_out(self):
        puts = [(0, 0, 3)]
        self.assertEqual(late(EXAMPLE, 2, puts, [0]), [[3, 0], [0, 0]])
        self.assertEqual(late(EXAMPLE, 2, puts, [1]), [[3, 2], [0, 0]])
        self.assertEqual(late(EXAMPLE, 2, puts, [1, 0]), [[3, 0], [0, 0]])
        for none in ([], None):
            self.assertEqual(late(EXAMPLE, 2, puts, none), [[3, 2], [1, 0]])
        self.assertEqual(late(EXAMPLE, 2, puts, without=[0]), [[3, 0], [0, 0]])

    def test_drawn(self):
        for seed, table in drawn_tables(80, most_goings=4, most_arrows=6):
            chance = Random(seed)
            puts = draw_puts(seed, table, 6)
            without = [step for step in range(len(table.net.arrows)) if chance.random() < 0.3]
            rows = late(table, 5, puts, without)
            places = range(len(table.times))
            self.assertEqual(rows, [[slow_late(table, g, k, puts, without) for g in places] for k in range(5)], seed)

    def test_the_same_as_a_run(self):
        tables = [table for seed, table in drawn_tables(80, most_goings=7, most_arrows=20)]
        tables += [draw_table(seed, 40, 120, beat=60, scale=10 ** 6, most_slack=10 ** 6) for seed in range(3)]
        for seed, table in enumerate(tables):
            chance = Random(seed)
            puts = draw_puts(seed, table, 30, most=10 ** chance.randint(1, 12), many=9)
            without = [step for step in range(len(table.net.arrows)) if chance.random() < 0.2]
            for some in ([], without):
                rows = late(table, 25, puts, some)
                self.assertEqual(rows, run_late(table, 25, puts, some), seed)
                self.assertTrue(all(type(amount) is int for row in rows for amount in row))

    def test_what_is_handed_in_stays(self):
        puts = [(1, 1, 4), (0, 0, 3), (0, 0, 2)]
        without = [1]
        kept = copy.deepcopy((puts, without))
        told = late(EXAMPLE, 3, puts, without)
        told[0][0] = 99
        told.clear()
        fate(EXAMPLE, puts, 9)
        self.assertEqual((puts, without), kept)
        self.assertEqual(late(EXAMPLE, 1, puts, without), [[3, 2]])

    def test_rows_are_each_their_own(self):
        told = late(EXAMPLE, 3, [])
        told[0][0] = 5
        self.assertEqual(told, [[5, 0], [0, 0], [0, 0]])


class TightRing(unittest.TestCase):
    def check(self, table, going):
        ring = tight_ring(table, going)
        rings = [ring for ring in tight_rings(table) if going in [table.net.arrows[step].start for step in ring]]
        if ring is None:
            self.assertEqual(rings, [])
            return None
        self.assertIs(type(ring), list)
        self.assertTrue(is_ring(table.net, ring))
        self.assertEqual([table.slack(step) for step in ring], [0] * len(ring))
        self.assertEqual(table.net.arrows[ring[0]].start, going)
        return ring

    def test_example(self):
        self.assertEqual([self.check(EXAMPLE, 0), self.check(EXAMPLE, 1)], [None, None])
        self.assertEqual([self.check(TIGHT, 0), self.check(TIGHT, 1)], [[0, 1], [1, 0]])

    def test_of_one_arrow(self):
        table = Table(net_of(2, [(0, 0, 7, 1), (0, 0, 8, 1), (1, 1, 7, 1)]), [3, 0], 8)
        self.assertEqual(self.check(table, 0), [1])
        self.assertIsNone(self.check(table, 1))

    def test_tight_arrows_lead_to_a_ring_and_from_it(self):
        net = net_of(4, [(0, 1, 2, 0), (1, 2, 2, 0), (2, 1, 8, 1), (2, 3, 1, 0)])
        table = Table(net, [0, 2, 4, 5], 10)
        self.assertEqual([table.slack(step) for step in range(4)], [0, 0, 0, 0])
        self.assertEqual([self.check(table, going) for going in range(4)], [None, [1, 2], [2, 1], None])

    def test_one_arrow_of_the_ring_has_slack(self):
        net = net_of(3, [(0, 1, 2, 0), (1, 2, 2, 0), (2, 0, 6, 1)])
        self.assertEqual(self.check(Table(net, [0, 2, 4], 10), 1), [1, 2, 0])
        self.assertIsNone(self.check(Table(net, [0, 2, 5], 11), 1))

    def test_two_rings_through_one_going(self):
        net = net_of(3, [(0, 1, 2, 0), (1, 0, 8, 1), (1, 2, 3, 0), (2, 1, 7, 1)])
        table = Table(net, [0, 2, 5], 10)
        self.assertIn(self.check(table, 1), ([1, 0], [2, 3]))
        self.assertEqual(self.check(table, 0), [0, 1])
        self.assertEqual(self.check(table, 2), [3, 2])

    def test_all_forty_goings(self):
        net = net_of(40, [(going, going + 1, 1, 0) for going in range(39)] + [(39, 0, 1, 4)])
        table = Table(net, list(range(40)), 10)
        self.assertEqual(self.check(table, 5), list(range(5, 40)) + list(range(5)))

    def test_without_arrows(self):
        self.assertIsNone(tight_ring(Table(Net(["a"], []), [0], 0), 0))

    def test_what_is_told_is_new(self):
        tight_ring(TIGHT, 0).clear()
        self.assertEqual(tight_ring(TIGHT, 0), [0, 1])

    def test_drawn(self):
        found = []
        for seed, table in drawn_tables(150):
            found += [self.check(table, going) is None for going in range(len(table.times))]
        self.assertTrue(50 < found.count(True) < len(found) - 50)


def slow_fate(table, puts, most, rows):
    """By rows that go on far beyond the last put and most."""
    keepers = {table.net.arrows[step].start for ring in tight_rings(table) for step in ring}
    for number in range(most):
        for going in range(len(table.times)):
            if rows[number][going] > 0 and going in keepers:
                return ("ever", going, number)
    lates = [number for number, row in enumerate(rows) if any(row)]
    first = max(lates, default=-1) + 1
    return ("died", first) if first + table.net.most_behind() <= most else None


class Fate(unittest.TestCase):
    def test_examples(self):
        puts = [(0, 0, 3)]
        for most in range(1, 401):
            self.assertEqual(fate(EXAMPLE, puts, most), ("died", 2) if most >= 3 else None)
            self.assertEqual(fate(TIGHT, puts, most), ("ever", 0, 0))

    def test_without_puts_above_0(self):
        for puts in ([], [(0, 0, 0)], [(1, 400, 0), (0, 3, 0)]):
            for table in (EXAMPLE, TIGHT):
                for most in (1, 2, 400):
                    self.assertEqual(fate(table, puts, most), ("died", 0))
        deep = Table(net_of(1, [(0, 0, 0, 4)]), [0], 0)
        self.assertEqual([fate(deep, [], most) for most in (1, 3, 4, 5)], [None, None, ("died", 0), ("died", 0)])

    def test_the_earliest_round_and_of_it_the_least_going(self):
        # 0 leads to the tight ring of 1 and 2, and to that of 3, three rounds later.
        net = net_of(4, [(0, 2, 30, 3), (1, 2, 4, 0), (2, 1, 6, 1), (3, 3, 10, 1), (0, 3, 30, 3), (0, 1, 30, 3)])
        table = Table(net, [0, 0, 4, 0], 10)
        self.assertEqual(fate(table, [(0, 0, 1)], 400), ("ever", 1, 3))
        self.assertIsNone(fate(table, [(0, 0, 1)], 3))
        self.assertEqual(fate(table, [(0, 0, 1)], 4), ("ever", 1, 3))
        self.assertEqual(fate(table, [(0, 0, 1), (3, 2, 1)], 400), ("ever", 3, 2))
        self.assertEqual(fate(table, [(3, 2, 1), (2, 2, 1), (1, 5, 7)], 400), ("ever", 2, 2))

    def test_late_on_no_ring_dies(self):
        table = Table(net_of(3, [(0, 1, 10, 1), (1, 2, 10, 1)]), [0, 0, 0], 10)
        self.assertEqual(fate(table, [(0, 0, 5)], 4), ("died", 3))
        self.assertIsNone(fate(table, [(0, 0, 5)], 3))
        self.assertEqual(fate(table, [(2, 0, 5)], 2), ("died", 1))
        self.assertIsNone(fate(table, [(2, 0, 5)], 1))

    def test_a_pause_is_no_end(self):
        table = Table(net_of(2, [(0, 1, 0, 4)]), [0, 0], 0)
        self.assertIsNone(fate(table, [(0, 0, 5)], 4))
        self.assertIsNone(fate(table, [(0, 0, 5)], 8))
        self.assertEqual(fate(table, [(0, 0, 5)], 9), ("died", 5))

    def test_puts_from_most_on(self):
        for most in (5, 6, 7):
            asked = ("died", 6) if most >= 7 else None
            self.assertEqual(fate(EXAMPLE, [(1, 5, 1)], most), asked)
        self.assertIsNone(fate(EXAMPLE, [(0, 0, 3), (1, 400, 1)], 400))
        self.assertIsNone(fate(EXAMPLE, [(1, 10 ** 30, 1)], 400))
        self.assertEqual(fate(EXAMPLE, [(0, 0, 3), (1, 10, 0)], 10), ("died", 2))
        self.assertIsNone(fate(TIGHT, [(0, 10, 1)], 10))
        self.assertEqual(fate(TIGHT, [(0, 10, 1)], 11), ("ever", 0, 10))
        self.assertEqual(fate(TIGHT, [(0, 10, 1), (1, 0, 1)], 10), ("ever", 1, 0))

    def test_the_longest_look(self):
        self.assertEqual(fate(EXAMPLE, [(0, 0, 797)], 400), ("died", 399))
        self.assertIsNone(fate(EXAMPLE, [(0, 0, 798)], 399))
        self.assertIsNone(fate(EXAMPLE, [(0, 0, 799)], 400))

    def test_drawn(self):
        kinds = {"ever": 0, "died": 0, "none": 0}
        for seed, table in drawn_tables(250, most_goings=5, most_arrows=7):
            puts = draw_puts(seed, table, 12)
            rows = late(table, 400, puts)
            for most in (1, 2, 5, 9, 13, 40):
                told = fate(table, puts, most)
                self.assertEqual(told, slow_fate(table, puts, most, rows), (seed, most))
                kinds[told[0] if told else "none"] += 1
                if told and told[0] == "ever":
                    self.check_ever(table, rows, told)
        self.assertGreater(min(kinds.values()), 100)

    def check_ever(self, table, rows, told):
        kind, going, number = told
        ring = tight_ring(table, going)
        length = sum(table.net.arrows[step].behind for step in ring)
        for later in range(number, 400, length):
            self.assertGreaterEqual(rows[later][going], rows[number][going])


if __name__ == "__main__":
    unittest.main()
