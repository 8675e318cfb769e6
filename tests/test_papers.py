import copy
import unittest
from fractions import Fraction

from drawn import all_rings, as_fraction, as_pair, drawn_nets, great_net, is_pair, names, net_of, slow_mean
from ringbeat.nets import Net, leads_to
from ringbeat.papers import holds, holds_at, least_round, rate
from ringbeat.rounds import fits, is_ring, mean, times_or_ring

# The greatest mean is 7, of the ring [0, 1]; that of going 2 to itself is 5, and 2 leads to 0 and 1, not back.
NET = net_of(4, [(0, 1, 5, 0), (1, 0, 2, 1), (2, 2, 10, 2), (2, 0, 3, 0), (1, 3, 100, 4)])
# Rates 9 and 4 of two parts that do not touch, and a going on no ring.
APART = net_of(3, [(0, 0, 9, 1), (1, 1, 4, 1)])


def slow_rate(net, going):
    leading = leads_to(net, going)
    means = [slow_mean(net, ring) for ring in all_rings(net) if net.arrows[ring[0]].goal in leading]
    return max(means, default=None)


class Forms(unittest.TestCase):
    def check_form(self, net, paper, nevers):
        self.assertIs(type(paper), tuple)
        self.assertEqual(len(paper), 3)
        self.assertTrue(is_pair(paper[0]))
        self.assertEqual([type(part) for part in paper[1:]], [list, list])
        self.assertTrue(is_ring(net, paper[1]))
        self.assertEqual(as_pair(slow_mean(net, paper[1])), paper[0])
        self.assertEqual(len(paper[2]), len(net.names))
        self.assertTrue(all(is_pair(time) or (nevers and time is None) for time in paper[2]))


class LeastRound(Forms):
    def check(self, net):
        paper = least_round(net)
        self.check_form(net, paper, False)
        self.assertTrue(fits(net, paper[0], paper[2]))
        self.assertIs(holds(net, paper), True)
        return paper

    def test_without_a_ring(self):
        self.assertIsNone(least_round(Net(["a"], [])))
        self.assertIsNone(least_round(Net(names(40), [])))
        self.assertIsNone(least_round(net_of(3, [(0, 1, 5, 0), (1, 2, 5, 4), (0, 2, 10 ** 9, 1)])))

    def test_told(self):
        self.assertEqual(self.check(NET)[0], (7, 1))
        self.assertEqual(sorted(self.check(NET)[1]), [0, 1])
        self.assertEqual(self.check(APART)[:2], ((9, 1), [0]))
        self.assertEqual(self.check(net_of(1, [(0, 0, 0, 4)]))[:2], ((0, 1), [0]))
        self.assertEqual(self.check(net_of(1, [(0, 0, 6, 4)]))[:2], ((3, 2), [0]))
        self.assertEqual(self.check(net_of(1, [(0, 0, 10 ** 9, 1)]))[0], (10 ** 9, 1))

    def test_means_a_hair_apart(self):
        net = net_of(2, [(0, 0, 10 ** 9, 4), (1, 1, 10 ** 9 - 1, 4), (0, 1, 0, 0)])
        self.assertEqual(self.check(net)[0], (250000000, 1))
        ways = [(going, (going + 1) % 40, 3, 4) for going in range(40)]
        net = net_of(40, ways + [(0, 2, 7, 4)])
        self.assertEqual(self.check(net)[0], (121, 156))

    def test_the_means_of_long_rings_that_are_hardly_apart(self):
        # Two rings of twenty goings each, of time 1 in all, with behinds of 80 and of 79.
        low = [(going, (going + 1) % 20, 1 if going == 0 else 0, 4) for going in range(20)]
        high = [(start + 20, goal + 20, time, 3 if start == 5 else 4) for start, goal, time, behind in low]
        for ways in (low + high, high + low):
            self.assertEqual(self.check(net_of(40, ways))[0], (1, 79))
            turned = [((start + 20) % 40, (goal + 20) % 40, time, behind) for start, goal, time, behind in ways]
            self.assertEqual(self.check(net_of(40, turned))[0], (1, 79))

    def test_drawn(self):
        for seed, net in drawn_nets(150, most_goings=5, most_arrows=9):
            means = [slow_mean(net, ring) for ring in all_rings(net)]
            if means:
                self.assertEqual(as_fraction(self.check(net)[0]), max(means), seed)
            else:
                self.assertIsNone(least_round(net))

    def test_great_nets(self):
        for seed in range(8):
            for most_time in (1, 10, 10 ** 9):
                net = great_net(seed, most_time)
                paper = self.check(net)
                less = as_pair(as_fraction(paper[0]) - Fraction(1, 10 ** 9))
                self.assertEqual(times_or_ring(net, less)[0], "ring")

    def test_what_is_told_is_new(self):
        first = least_round(NET)
        kept = copy.deepcopy(first)
        first[1].append(9)
        first[2].clear()
        self.assertEqual(least_round(NET), kept)


class Holds(unittest.TestCase):
    def setUp(self):
        self.net = net_of(2, [(0, 1, 5, 0), (1, 0, 2, 1), (0, 0, 6, 1)])
        self.times = [(0, 1), (5, 1)]

    def check(self, asked, pace, ring, times):
        self.assertIs(holds(self.net, (pace, ring, times)), asked)

    def test_right_ones_whoever_wrote_them(self):
        self.check(True, (7, 1), [0, 1], self.times)
        self.check(True, (7, 1), [1, 0], self.times)
        self.check(True, (7, 1), [0, 1], [(-22, 7), (13, 7)])

    def test_wrong_rings(self):
        for ring in ([], [0], [1], [0, 1, 0, 1], [3], [-1], [-3, -2], [0, 4], [0, -2], [0, 1, 2], [2, 0, 1], [0, 0]):
            self.check(False, (7, 1), ring, self.times)

    def test_a_ring_of_another_mean(self):
        self.check(False, (7, 1), [2], self.times)
        self.check(False, (6, 1), [2], self.times)

    def test_another_round(self):
        for pace in ((8, 1), (6, 1), (-7, 1), (7 * 10 ** 59 + 1, 10 ** 59), (7 * 10 ** 59 - 1, 10 ** 59), (0, 1)):
            self.check(False, pace, [0, 1], self.times)

    def test_a_time_too_small_or_too_great(self):
        hair = 10 ** 59
        self.check(False, (7, 1), [0, 1], [(0, 1), (5 * hair - 1, hair)])
        self.check(False, (7, 1), [0, 1], [(-1, hair), (5, 1)])
        self.check(False, (7, 1), [0, 1], [(0, 1), (4, 1)])

    def test_times_too_few_or_too_many(self):
        for times in ([], self.times[:1], self.times + [(0, 1)], self.times * 2):
            self.check(False, (7, 1), [0, 1], times)

    def test_a_net_without_arrows(self):
        self.assertIs(holds(Net(["a"], []), ((0, 1), [], [(0, 1)])), False)
        self.assertIs(holds(Net(["a"], []), ((0, 1), [0], [(0, 1)])), False)

    def test_what_is_handed_in_stays(self):
        paper = ((7, 1), [0, 1], [(0, 1), (5, 1)])
        kept = copy.deepcopy(paper)
        holds(self.net, paper)
        holds_at(self.net, 0, paper)
        self.assertEqual(paper, kept)

    def test_only_the_least_round_holds(self):
        for seed, net in drawn_nets(60, most_goings=4, most_arrows=7):
            rings = all_rings(net)
            if rings:
                best = max(slow_mean(net, ring) for ring in rings)
                for ring in rings:
                    pace = mean(net, ring)
                    told = times_or_ring(net, pace)
                    times = told[1] if told[0] == "times" else [(0, 1)] * len(net.names)
                    self.assertEqual(holds(net, (pace, ring, times)), as_fraction(pace) == best)


class Rate(Forms):
    def check(self, net, going):
        paper = rate(net, going)
        self.check_form(net, paper, True)
        leading = leads_to(net, going)
        self.assertEqual([place for place, time in enumerate(paper[2]) if time is not None], leading)
        self.assertTrue(all(net.arrows[number].goal in leading for number in paper[1]))
        for arrow in net.arrows:
            if arrow.goal in leading:
                least = as_fraction(paper[2][arrow.start]) + arrow.time - as_fraction(paper[0]) * arrow.behind
                self.assertGreaterEqual(as_fraction(paper[2][arrow.goal]), least)
        self.assertIs(holds_at(net, going, paper), True)
        return paper

    def test_told(self):
        self.assertEqual([self.check(NET, going)[0] for going in range(4)], [(7, 1), (7, 1), (5, 1), (7, 1)])
        self.assertEqual(self.check(NET, 2)[1], [2])
        self.assertEqual([time is None for time in self.check(NET, 2)[2]], [True, True, False, True])
        self.assertEqual([time is None for time in self.check(NET, 0)[2]], [False, False, False, True])
        self.assertEqual([self.check(APART, going)[0] for going in (0, 1)], [(9, 1), (4, 1)])

    def test_no_ring_leads_to_it(self):
        self.assertIsNone(rate(APART, 2))
        self.assertIsNone(rate(Net(["a"], []), 0))
        self.assertIsNone(rate(net_of(3, [(0, 0, 5, 1), (1, 2, 7, 0), (1, 0, 3, 0)]), 2))

    def test_a_ring_far_away(self):
        net = net_of(40, [(0, 0, 8, 3)] + [(going, going + 1, 1, 0) for going in range(39)])
        self.assertEqual(self.check(net, 39)[:2], ((8, 3), [0]))

    def test_drawn(self):
        for seed, net in drawn_nets(120, most_goings=6, most_arrows=9):
            for going in range(len(net.names)):
                best = slow_rate(net, going)
                if best is None:
                    self.assertIsNone(rate(net, going))
                else:
                    self.assertEqual(as_fraction(self.check(net, going)[0]), best)

    def test_great_nets(self):
        for seed in range(3):
            net = great_net(seed)
            for going in (0, 20, 39):
                self.check(net, going)


class HoldsAt(unittest.TestCase):
    def check(self, asked, going, pace, ring, times, net=NET):
        self.assertIs(holds_at(net, going, (pace, ring, times)), asked)

    def test_right_ones(self):
        self.check(True, 2, (5, 1), [2], [None, None, (0, 1), None])
        self.check(True, 2, (5, 1), [2], [None, None, (-7, 3), None])
        self.check(True, 0, (7, 1), [1, 0], [(3, 1), (8, 1), (0, 1), None])
        self.check(True, 1, (7, 1), [0, 1], [(3, 1), (8, 1), (0, 1), None])
        self.check(True, 3, (7, 1), [0, 1], [(3, 1), (8, 1), (0, 1), (80, 1)])

    def test_a_time_missing(self):
        self.check(False, 2, (5, 1), [2], [None, None, None, None])
        self.check(False, 0, (7, 1), [1, 0], [(3, 1), (8, 1), None, None])
        self.check(False, 0, (7, 1), [1, 0], [None, (8, 1), (0, 1), None])
        self.check(False, 3, (7, 1), [0, 1], [(3, 1), (8, 1), (0, 1), None])

    def test_a_time_of_a_going_that_does_not_lead_there(self):
        self.check(False, 2, (5, 1), [2], [None, None, (0, 1), (0, 1)])
        self.check(False, 2, (5, 1), [2], [(3, 1), (8, 1), (0, 1), (80, 1)])
        self.check(False, 0, (7, 1), [1, 0], [(3, 1), (8, 1), (0, 1), (80, 1)])

    def test_a_ring_that_does_not_lead_there(self):
        self.check(False, 2, (7, 1), [0, 1], [None, None, (0, 1), None])
        self.check(False, 1, (9, 1), [0], [None, (0, 1), None], APART)
        self.check(True, 1, (4, 1), [1], [None, (0, 1), None], APART)
        self.check(False, 2, (4, 1), [1], [None, None, (0, 1)], APART)

    def test_a_ring_of_another_mean(self):
        self.check(False, 0, (5, 1), [2], [(3, 1), (8, 1), (0, 1), None])
        self.check(False, 0, (7, 1), [2], [(3, 1), (8, 1), (0, 1), None])
        self.check(False, 0, (8, 1), [0, 1], [(3, 1), (8, 1), (0, 1), None])

    def test_what_is_no_ring(self):
        for ring in ([], [0], [0, 1, 0, 1], [7], [-5], [0, -4], [3]):
            self.check(False, 0, (7, 1), ring, [(3, 1), (8, 1), (0, 1), None])

    def test_an_arrow_missed_by_a_hair(self):
        hair = 10 ** 59
        self.check(False, 0, (7, 1), [1, 0], [(3, 1), (8, 1), (1, hair), None])
        self.check(False, 0, (7, 1), [1, 0], [(3 * hair + 1, hair), (8, 1), (0, 1), None])
        self.check(False, 3, (7, 1), [0, 1], [(3, 1), (8, 1), (0, 1), (80 * hair - 1, hair)])

    def test_times_too_few_or_too_many(self):
        self.check(False, 2, (5, 1), [2], [None, None, (0, 1)])
        self.check(False, 2, (5, 1), [2], [None, None, (0, 1), None, None])
        self.check(False, 2, (5, 1), [2], [])
        self.check(False, 3, (7, 1), [0, 1], [(3, 1), (8, 1), (0, 1), (80, 1), (0, 1)])

    def test_arrows_into_other_goings_play_no_part(self):
        net = net_of(2, [(0, 0, 3, 1), (0, 1, 9, 0), (1, 1, 50, 1)])
        self.check(True, 0, (3, 1), [0], [(0, 1), None], net)
        self.check(False, 1, (3, 1), [0], [(0, 1), (9, 1)], net)
        self.check(True, 1, (50, 1), [2], [(0, 1), (9, 1)], net)


if __name__ == "__main__":
    unittest.main()
