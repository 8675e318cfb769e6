import copy
import unittest

from drawn import draw_floors, draw_was, drawn_nets, great_net, is_way, names, net_of
from ringbeat.nets import Net
from ringbeat.reasons import reason
from ringbeat.runs import run

EXAMPLE = net_of(2, [(0, 1, 5, 0), (1, 0, 2, 1)])


class Reasons(unittest.TestCase):
    def check_start(self, told, was, floors, first):
        kind, start, at, way = told
        if kind == "was":
            self.assertLess(at, 0)
            self.assertEqual(first, 0 if was is None else was[-1 - at][start])
        else:
            self.assertEqual(kind, "floor")
            self.assertGreaterEqual(at, 0)
            self.assertIn((start, at, first), floors)

    def check(self, net, going, number, was=None, floors=None, rows=None):
        told = reason(net, going, number, was, floors)
        time = (rows or run(net, number + 1, was, floors))[number][going]
        if time is None:
            self.assertIsNone(told)
            return None
        self.assertIs(type(told), tuple)
        kind, start, at, way = told
        self.assertIs(type(way), list)
        self.assertTrue(is_way(net, way, start, going))
        self.check_start(told, was, floors or [], time - sum(net.arrows[step].time for step in way))
        here = at
        for step in way:
            here += net.arrows[step].behind
            self.assertGreaterEqual(here, 0)
        self.assertEqual(here, number)
        return told

    def test_example(self):
        self.assertEqual(self.check(EXAMPLE, 1, 0), ("was", 1, -1, [1, 0]))
        self.assertEqual(self.check(EXAMPLE, 0, 0), ("was", 1, -1, [1]))
        self.assertEqual(self.check(EXAMPLE, 0, 1), ("was", 1, -1, [1, 0, 1]))

    def test_arguments_by_place_and_by_name(self):
        self.assertEqual(reason(EXAMPLE, 1, 0, [[0, 9]], [(0, 0, 30)]), ("floor", 0, 0, [0]))
        self.assertEqual(reason(EXAMPLE, 1, 0, was=[[0, 9]]), ("was", 1, -1, [1, 0]))
        self.assertEqual(reason(EXAMPLE, 1, 0, floors=[(0, 0, 30)]), ("floor", 0, 0, [0]))

    def test_a_way_of_no_arrows(self):
        self.assertEqual(self.check(EXAMPLE, 0, 0, None, [(0, 0, 30)]), ("floor", 0, 0, []))
        net = Net(names(2), [])
        self.assertEqual(self.check(net, 1, 3, None, [(1, 3, -5), (1, 3, -9)]), ("floor", 1, 3, []))

    def test_the_greatest_of_several_floors(self):
        floors = [(0, 0, 10), (0, 0, 30), (0, 0, 20)]
        self.assertEqual(self.check(EXAMPLE, 1, 0, None, floors), ("floor", 0, 0, [0]))
        self.assertEqual(self.check(EXAMPLE, 1, 1, None, floors), ("floor", 0, 0, [0, 1, 0]))

    def test_a_floor_in_a_later_round(self):
        self.assertEqual(self.check(EXAMPLE, 1, 2, None, [(1, 1, 50)]), ("floor", 1, 1, [1, 0]))
        self.assertEqual(self.check(EXAMPLE, 1, 0, None, [(1, 1, 50)]), ("was", 1, -1, [1, 0]))

    def test_never(self):
        net = net_of(3, [(0, 1, 5, 0), (2, 2, 1, 1)])
        for going in (0, 1):
            for number in (0, 1, 7):
                self.assertIsNone(reason(net, going, number))
        self.assertIsNone(reason(net, 2, 3, [[0, 0, None]]))
        self.assertIsNone(reason(net, 1, 1, None, [(0, 0, 4)]))
        self.assertEqual(self.check(net, 1, 0, None, [(0, 0, 4)]), ("floor", 0, 0, [0]))

    def test_nevers_of_what_was_are_no_starts(self):
        net = net_of(2, [(0, 0, 9, 1), (1, 0, 0, 2)])
        self.assertEqual(self.check(net, 0, 0, [[None, None], [None, -70]]), ("was", 1, -2, [1]))
        self.assertEqual(self.check(net, 0, 1, [[None, None], [None, -70]]), ("was", 1, -2, [1, 0]))

    def test_what_was_four_rounds_back(self):
        net = net_of(1, [(0, 0, 3, 4)])
        self.assertEqual(self.check(net, 0, 0, [[1], [2], [3], [4]]), ("was", 0, -4, [0]))
        self.assertEqual(self.check(net, 0, 3, [[1], [2], [3], [4]]), ("was", 0, -1, [0]))
        self.assertEqual(self.check(net, 0, 5, [[1], [2], [3], [4], [99]]), ("was", 0, -3, [0, 0]))

    def test_long_ways(self):
        self.assertEqual(self.check(EXAMPLE, 1, 399), ("was", 1, -1, [1, 0] * 400))
        self.assertEqual(self.check(EXAMPLE, 1, 399, None, [(0, 0, 3)]), ("floor", 0, 0, [0] + [1, 0] * 399))
        net = net_of(40, [(going, going + 1, 1, 0) for going in range(39)] + [(39, 0, 1, 1)])
        told = self.check(net, 39, 399)
        self.assertEqual(len(told[3]), 400 * 40)

    def test_great_nets(self):
        for seed in range(3):
            net = great_net(seed)
            was = draw_was(seed, net, nevers=False, most=10 ** 14)
            rows = run(net, 400, was)
            for going in (0, 17, 39):
                for number in (0, 1, 200, 399):
                    self.check(net, going, number, was, None, rows)

    def test_drawn(self):
        kinds = {}
        for seed, net in drawn_nets(120):
            was = None if seed % 5 == 0 else draw_was(seed, net, more=seed % 3)
            floors = None if seed % 4 == 0 else draw_floors(seed, net, 7)
            rows = run(net, 7, was, floors)
            for going in range(len(net.names)):
                for number in range(7):
                    told = self.check(net, going, number, was, floors, rows)
                    kinds[told and told[0]] = True
        self.assertEqual(set(kinds), {None, "was", "floor"})

    def test_what_is_handed_in_stays(self):
        for seed, net in drawn_nets(30):
            was = draw_was(seed, net, more=1)
            floors = draw_floors(seed, net, 5)
            kept = copy.deepcopy((was, floors))
            told = reason(net, 0, 4, was, floors)
            if told is not None:
                told[3].append(99)
            self.assertEqual((was, floors), kept)
            self.check(net, 0, 4, was, floors)


if __name__ == "__main__":
    unittest.main()
