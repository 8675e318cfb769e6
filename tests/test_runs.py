import copy
import unittest

from drawn import MOST_TIME, draw_floors, draw_was, drawn_nets, great_net, names, net_of, slow_time
from ringbeat.nets import Net
from ringbeat.runs import run

EXAMPLE = net_of(2, [(0, 1, 5, 0), (1, 0, 2, 1)])


class Rows(unittest.TestCase):
    def check_form(self, net, rounds, rows):
        self.assertIs(type(rows), list)
        self.assertEqual(len(rows), rounds)
        for row in rows:
            self.assertIs(type(row), list)
            self.assertEqual(len(row), len(net.names))
            self.assertTrue(all(time is None or type(time) is int for time in row))

    def test_example(self):
        self.assertEqual(run(EXAMPLE, 2), [[2, 7], [9, 14]])

    def test_no_rounds(self):
        self.assertEqual(run(EXAMPLE, 0), [])
        self.assertEqual(run(EXAMPLE, 0, [[1, 2]], [(0, 0, 5)]), [])

    def test_one_round(self):
        self.assertEqual(run(EXAMPLE, 1), [[2, 7]])

    def test_four_hundred_rounds(self):
        rows = run(EXAMPLE, 400)
        self.assertEqual(rows, [[2 + 7 * k, 7 + 7 * k] for k in range(400)])
        for seed in range(3):
            net = great_net(seed)
            self.check_form(net, 400, run(net, 400))

    def test_the_beginning_of_a_longer_run_is_the_shorter_one(self):
        net = great_net(7)
        self.assertEqual(run(net, 400)[:31], run(net, 31))

    def test_without_arrows(self):
        net = Net(names(3), [])
        self.assertEqual(run(net, 2), [[None] * 3] * 2)
        self.assertEqual(run(net, 2, [[1, 2, 3]], [(1, 1, -5)]), [[None] * 3, [None, -5, None]])

    def test_never_where_nothing_leads(self):
        net = net_of(4, [(0, 1, 5, 0), (1, 2, 1, 1), (3, 3, 2, 1)])
        self.assertEqual(run(net, 3), [[None, None, 1, 2], [None, None, None, 4], [None, None, None, 6]])


class Behinds(unittest.TestCase):
    def test_each_behind(self):
        for behind in (1, 2, 3, 4):
            net = net_of(1, [(0, 0, 10, behind)])
            was = [[-number] for number in range(1, behind + 1)]
            rows = run(net, 9, was)
            past = [[-number] for number in range(behind, 0, -1)]
            self.assertEqual(rows, [[(past + rows)[k][0] + 10] for k in range(9)])
            self.assertEqual(rows[:behind], [[10 - behind + k] for k in range(behind)])

    def test_behind_0_along_a_whole_way(self):
        net = net_of(4, [(2, 1, 10, 0), (3, 2, 100, 0), (0, 3, 1000, 0), (1, 0, 1, 1)])
        self.assertEqual(run(net, 2), [[1, 1111, 1101, 1001], [1112, 2222, 2212, 2112]])

    def test_several_behinds_at_once(self):
        net = net_of(2, [(0, 1, 1, 0), (0, 1, 9, 2), (1, 0, 0, 4), (1, 0, 3, 1)])
        was = [[0, 0], [5, 1], [0, 2], [0, 30]]
        self.assertEqual(run(net, 3, was), [[30, 31], [34, 35], [38, 39]])

    def test_the_greatest_of_alike_arrows(self):
        self.assertEqual(run(net_of(2, [(0, 1, 4, 1), (0, 1, 6, 1), (0, 1, 5, 1)]), 1), [[None, 6]])

    def test_greatest_times(self):
        net = net_of(2, [(0, 1, MOST_TIME, 0), (1, 0, MOST_TIME, 1)])
        self.assertEqual(run(net, 400, [[10 ** 14, 10 ** 14]])[-1][1], 10 ** 14 + 800 * MOST_TIME)


class WhatWas(unittest.TestCase):
    def test_nothing_told_is_all_0(self):
        for seed, net in drawn_nets(40):
            zeros = [[0] * len(net.names)] * net.most_behind()
            self.assertEqual(run(net, 5), run(net, 5, zeros))
            self.assertEqual(run(net, 5, None), run(net, 5, was=zeros))

    def test_nevers(self):
        net = net_of(2, [(0, 0, 1, 1), (1, 0, 5, 1), (1, 1, 2, 2)])
        self.assertEqual(run(net, 3, [[None, None], [None, None]]), [[None, None]] * 3)
        self.assertEqual(run(net, 3, [[None, 7], [None, None]]), [[12, None], [13, 9], [14, None]])
        self.assertEqual(run(net, 3, [[-4, None], [None, 0]]), [[-3, 2], [7, None], [8, 4]])

    def test_times_below_0(self):
        least = -(10 ** 14)
        self.assertEqual(run(EXAMPLE, 2, [[0, least]]), [[least + 2, least + 7], [least + 9, least + 14]])

    def test_more_rows_than_needed(self):
        for seed, net in drawn_nets(40):
            was = draw_was(seed, net, more=3)
            self.assertEqual(run(net, 6, was), run(net, 6, was[:net.most_behind()]))

    def test_without_a_behind_no_more_than_one_row_is_needed(self):
        self.assertEqual(run(net_of(2, [(0, 1, 5, 0)]), 2, [[3, 4]]), [[None, None]] * 2)


class Floors(unittest.TestCase):
    def test_none_and_the_empty_list(self):
        self.assertEqual(run(EXAMPLE, 3, None, []), run(EXAMPLE, 3))
        self.assertEqual(run(EXAMPLE, 3, floors=None), run(EXAMPLE, 3))

    def test_above_and_below_what_arrows_bring(self):
        self.assertEqual(run(EXAMPLE, 2, floors=[(0, 0, 1), (1, 1, 13)]), [[2, 7], [9, 14]])
        self.assertEqual(run(EXAMPLE, 2, floors=[(0, 0, 4)]), [[4, 9], [11, 16]])
        self.assertEqual(run(EXAMPLE, 3, floors=[(1, 1, 20)]), [[2, 7], [9, 20], [22, 27]])

    def test_several_for_one_going_and_round_in_any_order(self):
        floors = [(0, 1, 10), (0, 1, 30), (0, 1, 20), (0, 0, -3)]
        told = [[2, 7], [30, 35]]
        self.assertEqual(run(EXAMPLE, 2, None, floors), told)
        self.assertEqual(run(EXAMPLE, 2, None, floors[::-1]), told)

    def test_beyond_the_rounds_run(self):
        floors = [(0, 2, 100), (1, 400, 5), (0, 10 ** 20, 7)]
        self.assertEqual(run(EXAMPLE, 2, floors=floors), [[2, 7], [9, 14]])

    def test_in_the_midst_of_never(self):
        net = net_of(3, [(0, 1, 5, 0), (1, 2, 1, 2)])
        self.assertEqual(run(net, 3, [[None] * 3] * 2, [(0, 0, -8)]), [[-8, -3, None], [None] * 3, [None, None, -2]])


class Drawn(unittest.TestCase):
    def test_the_greatest_sum_of_a_way(self):
        for seed, net in drawn_nets(60, most_goings=4, most_arrows=6):
            was = draw_was(seed, net, more=seed % 2)
            floors = draw_floors(seed, net, 4)
            rows = run(net, 4, was, floors)
            asked = [[slow_time(net, going, k, was, floors) for going in range(len(net.names))] for k in range(4)]
            self.assertEqual(rows, asked, seed)

    def test_what_is_handed_in_stays(self):
        for seed, net in drawn_nets(30):
            was = draw_was(seed, net, more=1)
            floors = draw_floors(seed, net, 5)
            kept = copy.deepcopy((was, floors))
            told = run(net, 5, was, floors)
            self.assertEqual((was, floors), kept)
            for row in told:
                row.append("x")
            told.clear()
            self.assertEqual((was, floors), kept)
            self.assertEqual(run(net, 5, was, floors), run(net, 5, kept[0], kept[1]))

    def test_rows_are_each_their_own(self):
        told = run(Net(["a"], []), 3, [[None]])
        told[0][0] = 5
        self.assertEqual(told, [[5], [None], [None]])


if __name__ == "__main__":
    unittest.main()
