import unittest
from itertools import combinations

from drawn import draw_puts, drawn_tables, names
from ringbeat.arrows import Back, Ride, Wait
from ringbeat.errors import TooMany
from ringbeat.given import give_up
from ringbeat.late import late
from ringbeat.nets import Net
from ringbeat.tables import Table


def table_of(many, arrows):
    """All times and the beat are 0, so that every arrow of time 0 is tight."""
    return Table(Net(names(many), arrows), [0] * many, 0)


def waits_of(table):
    return [number for number, arrow in enumerate(table.net.arrows) if isinstance(arrow, Wait)]


def is_late(table, puts, going, beat, without):
    return late(table, beat + 1, puts, without)[beat][going] > 0


class GiveUp(unittest.TestCase):
    def check(self, table, puts, going, beat):
        told = give_up(table, puts, going, beat)
        waits = waits_of(table)
        if told is None:
            self.assertTrue(is_late(table, puts, going, beat, waits))
            return None
        self.assertIs(type(told), list)
        self.assertEqual(told, sorted(set(told)))
        self.assertTrue(set(told) <= set(waits))
        self.assertFalse(is_late(table, puts, going, beat, told))
        for count in range(len(told)):
            for some in combinations(waits, count):
                self.assertTrue(is_late(table, puts, going, beat, list(some)))
        return told

    def test_nothing_late(self):
        table = table_of(2, [Wait(0, 1, 0), Wait(1, 0, 0, 1)])
        for puts in ([], [(0, 0, 0)], [(0, 4, 9)]):
            self.assertEqual(self.check(table, puts, 1, 3), [])
        self.assertEqual(self.check(table_of(1, []), [], 0, 60), [])

    def test_late_anyhow(self):
        table = table_of(3, [Wait(0, 1, 0), Ride(0, 1, 0), Wait(1, 2, 0)])
        self.assertIsNone(self.check(table, [(0, 0, 5)], 0, 0))
        self.assertIsNone(self.check(table, [(0, 0, 5)], 1, 0))
        self.assertEqual(self.check(table, [(0, 0, 5)], 2, 0), [2])
        self.assertIsNone(self.check(table, [(0, 0, 5), (2, 0, 1)], 2, 0))
        self.assertIsNone(self.check(table_of(2, [Back(0, 1, 0)]), [(0, 0, 1)], 1, 1))

    def test_one_wait(self):
        table = table_of(3, [Ride(0, 1, 0), Wait(1, 2, 0), Wait(0, 2, 0, 1)])
        self.assertEqual(self.check(table, [(0, 0, 5)], 2, 0), [1])
        self.assertEqual(self.check(table, [(0, 0, 5)], 2, 1), [2])
        self.assertEqual(self.check(table, [(0, 0, 5)], 2, 2), [])

    def test_several_waits_at_once(self):
        arrows = [Wait(0, 1, 0), Ride(0, 1, 0), Wait(0, 1, 0), Wait(1, 2, 0), Wait(0, 2, 0), Wait(0, 2, 0)]
        table = table_of(3, arrows)
        self.assertEqual(self.check(table, [(0, 0, 5)], 2, 0), [3, 4, 5])
        self.assertEqual(self.check(table, [(1, 0, 5)], 2, 0), [3])

    def test_the_fewest(self):
        # Three waits out of 0, then one into 4 that all of them come by.
        arrows = [Wait(0, 1, 0), Wait(0, 2, 0), Wait(0, 3, 0), Ride(1, 3, 0), Ride(2, 3, 0), Wait(3, 4, 0)]
        self.assertEqual(self.check(table_of(5, arrows), [(0, 0, 5)], 4, 0), [5])
        self.assertEqual(self.check(table_of(5, arrows), [(0, 0, 5)], 3, 0), [0, 1, 2])

    def test_slack_counts(self):
        net = Net(names(2), [Wait(0, 1, 3), Wait(0, 1, 5)])
        table = Table(net, [0, 10], 20)
        self.assertEqual(self.check(table, [(0, 0, 5)], 1, 0), [])
        self.assertEqual(self.check(table, [(0, 0, 6)], 1, 0), [1])
        self.assertEqual(self.check(table, [(0, 0, 8)], 1, 0), [0, 1])

    def test_greatest_beat(self):
        table = table_of(2, [Back(0, 0, 0), Wait(0, 1, 0)])
        self.assertEqual(self.check(table, [(0, 0, 5)], 1, 60), [1])
        self.assertEqual(self.check(table, [(0, 60, 5)], 1, 59), [])
        self.assertIsNone(self.check(table, [(0, 0, 5)], 0, 60))

    def test_puts_stay(self):
        puts = [(0, 0, 5), (0, 0, 2)]
        table = table_of(2, [Wait(0, 1, 0)])
        told = give_up(table, puts, 1, 0)
        told.append(7)
        self.assertEqual(puts, [(0, 0, 5), (0, 0, 2)])
        self.assertEqual(give_up(table, puts, 1, 0), [0])
        give_up(table, [], 1, 0).append(7)
        self.assertEqual(give_up(table, [], 1, 0), [])

    def test_drawn(self):
        sizes = {}
        for seed, table in drawn_tables(250, most_goings=4, most_arrows=8):
            puts = draw_puts(seed, table, 4)
            for going in range(len(table.times)):
                told = self.check(table, puts, going, seed % 5)
                size = None if told is None else len(told)
                sizes[size] = sizes.get(size, 0) + 1
        for size in (None, 0, 1, 2):
            self.assertGreater(sizes[size], 3)

    def test_more_given_up_never_makes_later(self):
        for seed, table in drawn_tables(40, most_goings=4, most_arrows=6):
            puts = draw_puts(seed, table, 4)
            waits = waits_of(table)
            for some in (waits[:1], waits[:2], waits):
                more = late(table, 8, puts, some)
                for fewer in (some[:-1], some[1:], []):
                    rows = late(table, 8, puts, fewer)
                    for row, lesser in zip(rows, more):
                        self.assertTrue(all(one >= other for one, other in zip(row, lesser)))


class Bounds(unittest.TestCase):
    def test_eight_waits(self):
        table = table_of(2, [Wait(0, 1, 0)] * 8)
        self.assertEqual(give_up(table, [(0, 60, 1)], 1, 60), list(range(8)))
        self.assertEqual(give_up(table, [(0, 60, 1)], 1, 59), [])
        self.assertIsNone(give_up(table, [(0, 60, 1)], 0, 60))

    def test_eight_waits_of_a_great_net(self):
        chain = [Ride(going, going + 1, 0) for going in range(1, 39)]
        arrows = [Wait(0, 1, 0)] * 8 + chain + [Back(39, 39, 0)] * (112 - len(chain))
        self.assertEqual(give_up(table_of(40, arrows), [(0, 60, 1)], 39, 60), list(range(8)))

    def test_more_than_eight_waits(self):
        for many in (9, 10, 120):
            table = table_of(2, [Wait(0, 1, 0)] * many)
            for puts, going, beat in (([], 0, 0), ([(0, 0, 5)], 1, 0), ([(1, 0, 5)], 1, 0)):
                with self.assertRaises(TooMany) as caught:
                    give_up(table, puts, going, beat)
                self.assertEqual(caught.exception.many, many)

    def test_only_waits_count(self):
        arrows = [Ride(0, 1, 0)] * 50 + [Wait(0, 1, 0)] * 8 + [Back(1, 0, 0)] * 50
        self.assertIsNone(give_up(table_of(2, arrows), [(0, 0, 1)], 1, 0))
        with self.assertRaises(TooMany) as caught:
            give_up(table_of(2, arrows + [Wait(1, 1, 0, 4)]), [], 1, 0)
        self.assertEqual(caught.exception.many, 9)


if __name__ == "__main__":
    unittest.main()
