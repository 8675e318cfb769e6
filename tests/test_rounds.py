import unittest
from fractions import Fraction
from random import Random

from drawn import all_rings, as_fraction, as_pair, drawn_nets, great_net, is_pair, names, net_of, slow_mean
from ringbeat.nets import Net
from ringbeat.rounds import fits, is_ring, mean, times_or_ring

# 0 -> 1 -> 2 -> 0, 1 -> 0, and one of going 2 to itself; 3 stands on no ring.
RINGS = net_of(4, [(0, 1, 5, 0), (1, 2, 3, 0), (2, 0, 4, 2), (1, 0, 6, 1), (2, 2, 7, 3), (2, 3, 1, 0), (0, 1, 9, 1)])


def slow_fits(net, pace, times):
    here = [as_fraction(time) for time in times]
    return all(
        here[arrow.goal] >= here[arrow.start] + arrow.time - as_fraction(pace) * arrow.behind for arrow in net.arrows
    )


class IsRing(unittest.TestCase):
    def test_rings(self):
        for ring in ([0, 3], [0, 1, 2], [4], [6, 3], [6, 1, 2]):
            for turn in range(len(ring)):
                turned = ring[turn:] + ring[:turn]
                self.assertIs(is_ring(RINGS, turned), True, turned)

    def test_of_one_arrow(self):
        self.assertIs(is_ring(net_of(1, [(0, 0, 0, 1)]), [0]), True)
        self.assertIs(is_ring(net_of(2, [(0, 1, 0, 1)]), [0]), False)

    def test_of_forty_goings(self):
        net = net_of(40, [(going, going + 1, 1, 0) for going in range(39)] + [(39, 0, 1, 1)])
        self.assertIs(is_ring(net, list(range(40))), True)
        self.assertIs(is_ring(net, list(range(39))), False)
        self.assertIs(is_ring(net, list(range(1, 40))), False)

    def test_what_is_none(self):
        wrong = [[], [0], [0, 1], [1, 2], [3, 1, 2], [2, 1, 0], [0, 3, 4], [5], [4, 5], [0, 0], [0, 6]]
        for ring in wrong:
            self.assertIs(is_ring(RINGS, ring), False, ring)

    def test_numbers_that_no_arrow_has(self):
        wrong = [[-1], [7], [-3], [-7, -4], [0, -4], [-7, 3], [0, 10], [0, 1, -5], [10 ** 59], [-(10 ** 59)], [4, 99]]
        for ring in wrong:
            self.assertIs(is_ring(RINGS, ring), False, ring)
        self.assertIs(is_ring(Net(["a"], []), [0]), False)
        self.assertIs(is_ring(Net(["a"], []), []), False)

    def test_gone_round_twice(self):
        for ring in ([4, 4], [0, 3, 0, 3], [0, 1, 2, 0, 1, 2], [0, 3, 6, 3]):
            self.assertIs(is_ring(RINGS, ring), False, ring)

    def test_a_going_come_to_twice(self):
        self.assertIs(is_ring(RINGS, [0, 1, 4, 2]), False)
        net = net_of(3, [(0, 1, 1, 1), (1, 0, 1, 1), (0, 2, 1, 1), (2, 0, 1, 1)])
        self.assertIs(is_ring(net, [0, 1, 2, 3]), False)
        self.assertIs(is_ring(net, [2, 3]), True)

    def test_the_list_handed_in_stays(self):
        ring = [1, 2, 0]
        is_ring(RINGS, ring)
        mean(RINGS, ring)
        self.assertEqual(ring, [1, 2, 0])

    def test_drawn(self):
        for seed, net in drawn_nets(40, most_goings=4, most_arrows=6):
            chance = Random(seed)
            rings = [ring[turn:] + ring[:turn] for ring in all_rings(net) for turn in range(len(ring))]
            for ring in rings:
                self.assertTrue(is_ring(net, ring))
            for count in range(60):
                some = [chance.randint(-1, len(net.arrows)) for step in range(chance.randint(0, 4))]
                self.assertEqual(is_ring(net, some), some in rings, (seed, some))


class Mean(unittest.TestCase):
    def test_told(self):
        self.assertEqual(mean(RINGS, [0, 3]), (11, 1))
        self.assertEqual(mean(RINGS, [0, 1, 2]), (6, 1))
        self.assertEqual(mean(RINGS, [4]), (7, 3))
        self.assertEqual(mean(RINGS, [6, 3]), (15, 2))
        self.assertEqual(mean(RINGS, [3, 6]), (15, 2))

    def test_lowest_terms(self):
        self.assertEqual(mean(net_of(1, [(0, 0, 6, 4)]), [0]), (3, 2))
        self.assertEqual(mean(net_of(1, [(0, 0, 0, 4)]), [0]), (0, 1))
        self.assertEqual(mean(net_of(1, [(0, 0, 10 ** 9, 4)]), [0]), (250000000, 1))

    def test_drawn(self):
        for seed, net in drawn_nets(40):
            for ring in all_rings(net):
                self.assertEqual(mean(net, ring), as_pair(slow_mean(net, ring)))


class Fits(unittest.TestCase):
    def test_kept_just_so_and_missed_by_a_hair(self):
        net = net_of(2, [(0, 1, 5, 0), (1, 0, 2, 1)])
        hair = 10 ** 59
        self.assertIs(fits(net, (7, 1), [(0, 1), (5, 1)]), True)
        self.assertIs(fits(net, (7, 1), [(0, 1), (5 * hair - 1, hair)]), False)
        self.assertIs(fits(net, (7, 1), [(0, 1), (5 * hair + 1, hair)]), False)
        self.assertIs(fits(net, (7 * hair - 1, hair), [(0, 1), (5, 1)]), False)
        self.assertIs(fits(net, (7 * hair + 1, hair), [(0, 1), (5, 1)]), True)

    def test_each_arrow_counts(self):
        net = net_of(3, [(0, 1, 1, 0), (1, 2, 1, 0), (2, 0, 1, 3)])
        self.assertIs(fits(net, (1, 1), [(0, 1), (1, 1), (2, 1)]), True)
        self.assertIs(fits(net, (1, 1), [(0, 1), (0, 1), (2, 1)]), False)
        self.assertIs(fits(net, (1, 1), [(0, 1), (1, 1), (1, 1)]), False)
        self.assertIs(fits(net, (1, 1), [(-1, 1), (1, 1), (3, 1)]), False)

    def test_bottoms_above_1(self):
        net = net_of(2, [(0, 1, 1, 1), (1, 0, 2, 2)])
        self.assertIs(fits(net, (3, 2), [(1, 3), (1, 1)]), True)
        self.assertIs(fits(net, (1, 1), [(1, 3), (1, 3)]), True)
        self.assertIs(fits(net, (1, 1), [(1, 3), (1, 2)]), False)
        self.assertIs(fits(net, (5, 6), [(1, 3), (1, 2)]), False)

    def test_rounds_below_0(self):
        net = net_of(2, [(0, 1, 3, 2)])
        self.assertIs(fits(net, (-5, 2), [(0, 1), (8, 1)]), True)
        self.assertIs(fits(net, (-5, 2), [(0, 1), (15, 2)]), False)
        self.assertIs(fits(net, (-5, 2), [(-8, 1), (0, 1)]), True)

    def test_an_arrow_from_a_going_to_itself(self):
        net = net_of(1, [(0, 0, 7, 2)])
        self.assertIs(fits(net, (7, 2), [(99, 1)]), True)
        self.assertIs(fits(net, (10, 3), [(99, 1)]), False)

    def test_as_many_times_as_goings(self):
        net = net_of(2, [(0, 1, 0, 0)])
        self.assertIs(fits(net, (1, 1), [(0, 1)]), False)
        self.assertIs(fits(net, (1, 1), []), False)
        self.assertIs(fits(net, (1, 1), [(0, 1)] * 3), False)
        self.assertIs(fits(Net(names(2), []), (1, 1), [(0, 1)] * 2), True)
        self.assertIs(fits(Net(names(2), []), (1, 1), [(0, 1)]), False)

    def test_drawn(self):
        told = []
        for seed, net in drawn_nets(200, most_goings=3, most_arrows=3):
            chance = Random(seed)
            for count in range(10):
                pace = as_pair(Fraction(chance.randint(-3, 30), chance.randint(1, 3)))
                times = [as_pair(Fraction(chance.randint(-30, 30), chance.randint(1, 3))) for name in net.names]
                kept = list(times)
                told.append(fits(net, pace, times))
                self.assertEqual(told[-1], slow_fits(net, pace, times))
                self.assertEqual(times, kept)
        self.assertTrue(100 < told.count(True) < len(told) - 100)


class TimesOrRing(unittest.TestCase):
    def check(self, net, pace):
        told = times_or_ring(net, pace)
        self.assertIs(type(told), tuple)
        self.assertEqual(len(told), 2)
        self.assertIs(type(told[1]), list)
        if told[0] == "times":
            self.assertEqual(len(told[1]), len(net.names))
            self.assertTrue(all(is_pair(time) for time in told[1]), told)
            self.assertTrue(slow_fits(net, pace, told[1]))
            self.assertTrue(fits(net, pace, told[1]))
        else:
            self.assertEqual(told[0], "ring")
            self.assertTrue(is_ring(net, told[1]))
            self.assertGreater(slow_mean(net, told[1]), as_fraction(pace))
        return told[0]

    def test_at_the_mean_of_a_ring_and_a_hair_apart(self):
        hair = 10 ** 59
        for parts, top, bottom in (
            ([(0, 0, 7, 2)], 7, 2),
            ([(0, 1, 5, 0), (1, 0, 2, 1)], 7, 1),
            ([(0, 1, 5, 1), (1, 2, 2, 4), (2, 0, 0, 0), (0, 0, 1, 1)], 7, 5),
        ):
            net = net_of(3, parts)
            self.assertEqual(self.check(net, (top, bottom)), "times")
            self.assertEqual(self.check(net, as_pair(Fraction(top, bottom) - Fraction(1, hair))), "ring")
            self.assertEqual(self.check(net, as_pair(Fraction(top, bottom) + Fraction(1, hair))), "times")

    def test_without_a_ring(self):
        for net in (Net(names(3), []), net_of(3, [(0, 1, 5, 0), (0, 2, 1, 4), (1, 2, 9, 1)])):
            for pace in ((0, 1), (-1, 1), (-7, 3), (10 ** 20, 1), (-(10 ** 59), 1), (1, 10 ** 59), (-1, 10 ** 59)):
                self.assertEqual(self.check(net, pace), "times")

    def test_rounds_below_0(self):
        net = net_of(2, [(0, 1, 0, 0), (1, 0, 0, 1)])
        self.assertEqual(self.check(net, (0, 1)), "times")
        self.assertEqual(self.check(net, (-1, 10 ** 59)), "ring")
        self.assertEqual(self.check(net, (-5, 1)), "ring")

    def test_a_ring_of_one_arrow(self):
        net = net_of(1, [(0, 0, 3, 1), (0, 0, 4, 1)])
        self.assertEqual(times_or_ring(net, (3, 1)), ("ring", [1]))
        self.assertEqual(self.check(net, (4, 1)), "times")

    def test_what_is_told_is_new(self):
        net = net_of(1, [(0, 0, 3, 1)])
        for pace in ((1, 1), (3, 1)):
            first = times_or_ring(net, pace)
            kept = list(first[1])
            first[1].clear()
            self.assertEqual(times_or_ring(net, pace)[1], kept)

    def test_drawn(self):
        for seed, net in drawn_nets(150, most_goings=5, most_arrows=9):
            means = sorted({slow_mean(net, ring) for ring in all_rings(net)})
            for value in means + [Fraction(0), Fraction(-3, 2), Fraction(31, 7)]:
                for pace in (value - Fraction(1, 1000), value, value + Fraction(1, 1000)):
                    asked = "ring" if means and means[-1] > pace else "times"
                    self.assertEqual(self.check(net, as_pair(pace)), asked, (seed, pace))

    def test_great_nets(self):
        for seed in range(12):
            net = great_net(seed)
            for top in range(0, 41):
                self.check(net, as_pair(Fraction(top * 10 ** 9, 13)))
            self.check(net, (10 ** 59 + 1, 10 ** 50))
            self.check(net, (-(10 ** 59), 10 ** 50 - 1))

    def test_one_ring_of_all_forty_goings(self):
        order = list(range(40))
        Random(5).shuffle(order)
        ways = [(order[k], order[(k + 1) % 40], 10 ** 9, 4) for k in range(40)]
        net = net_of(40, ways + [(order[k], order[k], 10 ** 9 - 1, 4) for k in range(40)])
        self.assertEqual(self.check(net, (249999999, 1)), "ring")
        self.assertEqual(self.check(net, (10 ** 9 - 1, 4)), "ring")
        self.assertEqual(sorted(times_or_ring(net, (10 ** 9 - 1, 4))[1]), list(range(40)))
        self.assertEqual(self.check(net, (250000000, 1)), "times")


if __name__ == "__main__":
    unittest.main()
