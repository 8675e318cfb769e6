import copy
import unittest
from fractions import Fraction

from drawn import as_fraction, draw_was, drawn_nets, great_net, names, net_of
from ringbeat.again import comes_again, goes_on
from ringbeat.errors import Loose
from ringbeat.nets import Net
from ringbeat.papers import rate
from ringbeat.runs import run

EXAMPLE = net_of(2, [(0, 0, 3, 1), (1, 1, 2, 1), (0, 1, 0, 1)])
EXAMPLE_WAS = [[0, 5]]
EXAMPLE_ROWS = [[3, 7], [6, 9], [9, 11], [12, 13], [15, 15], [18, 17], [21, 19], [24, 21], [27, 24], [30, 27]]


def grown(rows, first, count):
    return [rows[first + count][going] - rows[first][going] for going in range(len(rows[0]))]


def slow_round(rows, count):
    """The least round from which on the rows, which are many, grow by the same lengths behind count rounds."""
    first = len(rows) - count - 1
    lengths = grown(rows, first, count)
    while first > 0 and grown(rows, first - 1, count) == lengths:
        first -= 1
    return (first, lengths)


def slow_again(rows, most):
    """The least count and its round, looked for in rows that go on far beyond most."""
    for count in range(1, most + 1):
        first, lengths = slow_round(rows, count)
        if first < len(rows) // 2:
            return (count, first, lengths)
    return None


class GoesOn(unittest.TestCase):
    def setUp(self):
        self.rows = run(EXAMPLE, 40, EXAMPLE_WAS)

    def check(self, asked, count, first, lengths, rows=None, net=EXAMPLE):
        self.assertIs(goes_on(net, self.rows if rows is None else rows, (count, first, lengths)), asked)

    def test_example(self):
        self.assertEqual(self.rows[:10], EXAMPLE_ROWS)
        self.check(True, 1, 7, [3, 3])
        self.check(True, 1, 7, [3, 3], EXAMPLE_ROWS)

    def test_later_rounds_and_greater_counts(self):
        self.check(True, 1, 8, [3, 3])
        self.check(True, 1, 30, [3, 3])
        self.check(True, 2, 7, [6, 6])
        self.check(True, 5, 7, [15, 15])
        self.check(False, 1, 6, [3, 3])
        self.check(False, 2, 6, [6, 6])

    def test_the_growth_itself(self):
        self.check(False, 1, 7, [3, 2])
        self.check(False, 1, 7, [2, 3])
        self.check(False, 1, 7, [3, 4])
        self.check(False, 2, 7, [3, 3])
        net = net_of(1, [(0, 0, 5, 3)])
        rows = run(net, 30, [[0], [1], [4]])
        self.check(True, 3, 0, [5], rows, net)
        self.check(False, 1, 0, [5], rows, net)
        self.check(False, 2, 0, [5], rows, net)

    def test_the_growth_in_all_of_the_rounds(self):
        # Behind 4: round 0 to 2 grow by 2, round 3 doesn't.
        net = net_of(1, [(0, 0, 8, 4)])
        rows = run(net, 30, [[9], [4], [2], [0]])
        self.assertEqual([row[0] for row in rows[:6]], [8, 10, 12, 17, 16, 18])
        self.check(False, 1, 0, [2], rows, net)
        self.check(True, 4, 0, [8], rows, net)

    def test_a_start_that_outgrows_its_goal(self):
        for first in range(0, 6):
            self.check(False, 1, first, [3, 2])

    def test_a_going_that_nothing_of_its_length_carries(self):
        # In round 1 going 0 is brought on by going 1, which grows by less.
        net = net_of(3, [(1, 0, 9, 1), (2, 1, 6, 1), (1, 2, 2, 0)])
        rows = run(net, 8, [[-7, -6, 12]])
        self.assertEqual(rows[:3], [[3, 18, 20], [27, 26, 28], [35, 34, 36]])
        self.check(False, 1, 0, [24, 8, 8], rows, net)
        self.check(False, 2, 0, [32, 16, 16], rows, net)
        self.check(True, 1, 1, [8, 8, 8], rows, net)
        net = net_of(3, [(0, 0, 5, 1), (1, 1, 5, 1), (0, 2, 4, 1), (2, 1, 2, 1)])
        rows = run(net, 8, [[6, 1, -11]])
        self.assertEqual(rows[:4], [[11, 6, 10], [16, 12, 15], [21, 17, 20], [26, 22, 25]])
        self.check(False, 2, 0, [10, 11, 10], rows, net)
        self.check(False, 3, 0, [15, 16, 15], rows, net)
        self.check(True, 1, 1, [5, 5, 5], rows, net)

    def test_carried_by_an_arrow_that_brings_just_that_time(self):
        net = net_of(2, [(0, 0, 3, 1), (0, 1, 9, 1)])
        self.check(True, 1, 0, [3, 3], [[3, 9], [6, 12], [9, 15]], net)
        self.check(False, 1, 0, [3, 4], [[3, 12], [6, 16], [9, 20]], net)
        self.check(False, 1, 0, [3, 3], [[3, 10], [6, 13], [9, 16]], net)

    def test_carried_in_each_of_the_count_rounds(self):
        net = net_of(1, [(0, 0, 3, 1)])
        self.check(True, 2, 0, [6], [[0], [3], [6]], net)
        self.check(False, 2, 0, [7], [[0], [3], [7]], net)
        self.check(False, 2, 0, [7], [[0], [4], [7]], net)
        self.check(False, 3, 0, [9], [[0], [3], [7], [9]], net)

    def test_too_few_rows(self):
        for many in range(0, 12):
            self.check(many >= 9, 1, 7, [3, 3], self.rows[:many])
        for many in range(0, 14):
            self.check(many >= 11, 3, 7, [9, 9], self.rows[:many])
        net = net_of(1, [(0, 0, 4, 4)])
        rows = run(net, 20)
        for many in range(0, 14):
            self.check(many >= 8, 4, 0, [4], rows[:many], net)

    def test_no_rows(self):
        self.check(False, 1, 0, [3, 3], [])

    def test_counts_and_rounds_that_are_none(self):
        self.check(False, 0, 7, [0, 0])
        self.check(False, -1, 8, [-3, -3])
        self.check(False, -5, 20, [-15, -15])
        self.check(False, 1, -1, [3, 3])
        self.check(False, 1, -40, [3, 3])
        self.check(False, 10 ** 59, 0, [3, 3])
        still = net_of(1, [(0, 0, 0, 1)])
        self.check(True, 1, 0, [0], [[0]] * 9, still)
        for first in (-1, -2, -5):
            self.check(False, 1, first, [0], [[0]] * 9, still)
        for count in (0, -1, -5):
            self.check(False, count, 5, [0], [[0]] * 9, still)
        self.check(False, 1, 10 ** 59, [3, 3])

    def test_lengths_too_few_or_too_many(self):
        for lengths in ([], [3], [3, 3, 3], [3] * 40):
            self.check(False, 1, 7, lengths)

    def test_what_is_handed_in_stays(self):
        paper = (1, 7, [3, 3])
        kept = copy.deepcopy((self.rows, paper))
        goes_on(EXAMPLE, self.rows, paper)
        self.assertEqual((self.rows, paper), kept)

    def test_just_where_it_comes_again_for_ever(self):
        found = {True: 0, False: 0}
        for seed, net in drawn_nets(60, most_goings=4, most_arrows=8, tied=True):
            rows = run(net, 700, draw_was(seed, net, nevers=False))
            for count in range(1, 9):
                for first in range(0, 25, 3):
                    lengths = grown(rows, first, count)
                    asked = all(grown(rows, k, count) == lengths for k in range(first, 700 - count))
                    self.check(asked, count, first, lengths, rows, net)
                    self.check(asked, count, first, lengths, rows[:first + net.most_behind() + count], net)
                    found[asked] += 1
        self.assertGreater(min(found.values()), 200)


class ComesAgain(unittest.TestCase):
    def test_example(self):
        self.assertEqual(comes_again(EXAMPLE, 200, EXAMPLE_WAS), (1, 7, [3, 3]))
        self.assertEqual(comes_again(EXAMPLE, 9, EXAMPLE_WAS), (1, 7, [3, 3]))
        for most in range(1, 9):
            self.assertIsNone(comes_again(EXAMPLE, most, EXAMPLE_WAS))

    def test_nothing_told_of_what_was(self):
        self.assertEqual(run(EXAMPLE, 5), [[3, 2], [6, 4], [9, 6], [12, 9], [15, 12]])
        self.assertEqual(comes_again(EXAMPLE, 200), (1, 2, [3, 3]))
        self.assertEqual(comes_again(EXAMPLE, 4), (1, 2, [3, 3]))
        self.assertIsNone(comes_again(EXAMPLE, 3))
        self.assertEqual(comes_again(EXAMPLE, 200, was=[[0, 0], [9, 9]]), (1, 2, [3, 3]))

    def test_the_least_count(self):
        net = net_of(2, [(0, 0, 5, 2), (1, 1, 7, 3)])
        self.assertEqual(comes_again(net, 200), (6, 0, [15, 14]))
        self.assertEqual(comes_again(net, 9), (6, 0, [15, 14]))
        self.assertIsNone(comes_again(net, 8))
        even = [[2, 0], [1, 0], [0, 0]]
        self.assertEqual(comes_again(net_of(2, [(0, 0, 2, 2), (1, 1, 3, 3)]), 200, even), (3, 0, [3, 3]))
        even = [[2, 3], [1, 2], [0, 1]]
        self.assertEqual(comes_again(net_of(2, [(0, 0, 2, 2), (1, 1, 3, 3)]), 200, even), (1, 0, [1, 1]))

    def test_the_bound_for_each_behind(self):
        for behind in (1, 2, 3, 4):
            net = net_of(1, [(0, 0, behind, behind)])
            was = [[-number] for number in range(behind)]
            for most in range(1, 9):
                told = comes_again(net, most, was)
                self.assertEqual(told, (1, 0, [1]) if most >= behind + 1 else None)

    def test_a_long_way_to_it(self):
        self.assertEqual(comes_again(EXAMPLE, 200, [[0, 196]]), (1, 198, [3, 3]))
        self.assertIsNone(comes_again(EXAMPLE, 199, [[0, 196]]))
        self.assertIsNone(comes_again(EXAMPLE, 200, [[0, 197]]))
        self.assertIsNone(comes_again(EXAMPLE, 200, [[0, 10 ** 14]]))

    def test_loose(self):
        for net, going in (
            (Net(["a"], []), 0),
            (net_of(3, [(0, 0, 1, 1), (1, 1, 1, 1)]), 2),
            (net_of(3, [(0, 0, 1, 1), (1, 0, 1, 0), (0, 2, 1, 1)]), 1),
            (net_of(4, [(1, 3, 1, 0), (3, 1, 1, 1)]), 0),
            (Net(names(40), []), 0),
        ):
            for most in (1, 200):
                with self.assertRaises(Loose) as caught:
                    comes_again(net, most)
                self.assertEqual(caught.exception.going, going)

    def test_what_is_handed_in_stays(self):
        was = [[0, 5]]
        told = comes_again(EXAMPLE, 20, was)
        told[2].append(9)
        self.assertEqual(was, [[0, 5]])
        self.assertEqual(comes_again(EXAMPLE, 20, was), (1, 7, [3, 3]))

    def check_paper(self, net, told, rows):
        self.assertIs(type(told), tuple)
        self.assertEqual([type(part) for part in told], [int, int, list])
        self.assertIs(goes_on(net, rows, told), True)
        for going, length in enumerate(told[2]):
            self.assertEqual(Fraction(length), told[0] * as_fraction(rate(net, going)[0]))

    def test_drawn(self):
        nones = 0
        for seed, net in drawn_nets(120, most_goings=4, most_arrows=8, tied=True):
            was = None if seed % 3 == 0 else draw_was(seed, net, nevers=False)
            rows = run(net, 900, was)
            asked = slow_again(rows, 60)
            self.assertIsNotNone(asked, seed)
            bound = asked[0] + asked[1] + net.most_behind()
            for most in {bound - 1, bound, bound + 1, 60, 200}:
                if 1 <= most <= 200:
                    told = comes_again(net, most, was)
                    self.assertEqual(told, asked if bound <= most else None, (seed, most))
                    nones += told is None
            self.check_paper(net, asked, rows)
        self.assertGreater(nones, 60)

    def test_great_nets(self):
        for seed in range(6):
            net = great_net(seed)
            told = comes_again(net, 200)
            self.assertIsNotNone(told)
            self.check_paper(net, told, run(net, 200))


if __name__ == "__main__":
    unittest.main()
