import unittest
from random import Random

from drawn import draw_was, drawn_nets, great_net, names, net_of
from ringbeat.alike import parted, steps
from ringbeat.arrows import Back, Ride, Wait
from ringbeat.errors import Unlike
from ringbeat.nets import Net
from ringbeat.runs import run


def slow_steps(net):
    found = {}

    def go_on(behind, start, here, total):
        key = (behind, start, here)
        found[key] = max(found.get(key, total), total)
        for arrow in net.arrows:
            if arrow.behind == 0 and arrow.start == here:
                go_on(behind, start, arrow.goal, total + arrow.time)

    for arrow in net.arrows:
        if arrow.behind > 0:
            go_on(arrow.behind, arrow.start, arrow.goal, arrow.time)
    return found


def beginning(one, other, key):
    """What was, as point 9.3 tells it: 0 for the start of the key in round -behind, never else."""
    rows = [[None] * len(one.names) for number in range(max(one.most_behind(), other.most_behind()))]
    rows[key[0] - 1][key[1]] = 0
    return rows


class Steps(unittest.TestCase):
    def check(self, net, told):
        self.assertEqual(steps(net), told)
        self.assertIs(type(steps(net)), dict)

    def test_without_arrows_of_a_behind(self):
        self.check(Net(["a"], []), {})
        self.check(net_of(3, [(0, 1, 5, 0), (1, 2, 5, 0)]), {})

    def test_of_one_arrow(self):
        self.check(net_of(2, [(0, 1, 5, 1)]), {(1, 0, 1): 5})
        self.check(net_of(1, [(0, 0, 0, 4)]), {(4, 0, 0): 0})
        self.check(net_of(2, [(0, 1, 5, 1), (0, 1, 5, 2), (1, 0, 1, 2)]), {(1, 0, 1): 5, (2, 0, 1): 5, (2, 1, 0): 1})

    def test_arrows_of_behind_0_come_behind_only(self):
        self.check(net_of(3, [(0, 1, 5, 0), (1, 2, 3, 1)]), {(1, 1, 2): 3})
        self.check(net_of(3, [(0, 1, 5, 1), (1, 2, 3, 0)]), {(1, 0, 1): 5, (1, 0, 2): 8})

    def test_only_one_arrow_with_a_behind(self):
        self.check(net_of(3, [(0, 1, 5, 1), (1, 2, 3, 1)]), {(1, 0, 1): 5, (1, 1, 2): 3})

    def test_the_greatest_sum(self):
        self.check(net_of(2, [(0, 1, 5, 1), (0, 1, 7, 1), (0, 1, 6, 1)]), {(1, 0, 1): 7})
        net = net_of(4, [(0, 1, 1, 2), (1, 2, 10, 0), (2, 3, 1, 0), (1, 3, 5, 0), (0, 3, 11, 2), (0, 2, 20, 2)])
        self.check(net, {(2, 0, 1): 1, (2, 0, 2): 20, (2, 0, 3): 21})

    def test_a_long_way(self):
        net = net_of(40, [(going + 1, going, 10 ** 9, 0) for going in range(39)] + [(0, 39, 1, 1)])
        self.check(net, {(1, 0, going): 1 + (39 - going) * 10 ** 9 for going in range(40)})

    def test_kinds_and_names_play_no_part(self):
        one = Net(["a", "b"], [Ride(0, 1, 5), Back(1, 0, 2, 1)])
        other = Net(["x", "y"], [Wait(0, 1, 5), Wait(1, 0, 2, 1)])
        self.assertEqual(steps(one), steps(other))

    def test_what_is_told_is_new(self):
        net = net_of(1, [(0, 0, 3, 1)])
        steps(net).clear()
        self.check(net, {(1, 0, 0): 3})

    def test_drawn(self):
        for seed, net in drawn_nets(150, most_goings=6, most_arrows=12):
            self.check(net, slow_steps(net))

    def test_great_nets(self):
        for seed in range(4):
            net = great_net(seed)
            told = steps(net)
            self.assertTrue(all(type(key) is tuple and 1 <= key[0] <= 4 for key in told))
            self.check(net, slow_steps(net))


class Parted(unittest.TestCase):
    def check(self, one, other):
        told = parted(one, other)
        back = parted(other, one)
        self.assertEqual(told is None, back is None)
        for key, here, there in ((told, one, other), (back, other, one)):
            if key is not None:
                self.assertIs(type(key), tuple)
                self.assertEqual([type(part) for part in key], [int] * 3)
                self.assertNotEqual(slow_steps(here).get(key), slow_steps(there).get(key))
                was = beginning(here, there, key)
                self.assertNotEqual(run(here, 1, was), run(there, 1, was))
        return told

    def test_the_same_net(self):
        net = net_of(2, [(0, 1, 5, 0), (1, 0, 2, 1)])
        self.assertIsNone(self.check(net, net))
        self.assertIsNone(self.check(net, net_of(2, [(1, 0, 2, 1), (0, 1, 5, 0)])))

    def test_alike_by_other_arrows(self):
        one = net_of(2, [(0, 1, 5, 0), (1, 0, 2, 1)])
        self.assertIsNone(self.check(one, net_of(2, [(1, 0, 2, 1), (1, 1, 7, 1)])))
        self.assertIsNone(self.check(one, net_of(2, [(0, 1, 5, 0), (0, 1, 4, 0), (1, 0, 2, 1), (1, 0, 0, 1)])))
        self.assertIsNone(self.check(one, Net(["q", "p"], [Ride(0, 1, 5), Back(1, 0, 2)])))

    def test_without_arrows_of_a_behind(self):
        self.assertIsNone(self.check(Net(names(3), []), net_of(3, [(0, 1, 5, 0)])))

    def test_of_unlike_greatest_behinds(self):
        one = net_of(1, [(0, 0, 3, 1)])
        self.assertEqual(self.check(one, net_of(1, [(0, 0, 3, 1), (0, 0, 12, 4)])), (4, 0, 0))
        self.assertEqual(self.check(one, Net(["a"], [])), (1, 0, 0))
        self.assertIn(self.check(one, net_of(1, [(0, 0, 3, 2)])), ((1, 0, 0), (2, 0, 0)))

    def test_unlike_sums(self):
        one = net_of(2, [(0, 1, 5, 1)])
        self.assertEqual(self.check(one, net_of(2, [(0, 1, 6, 1)])), (1, 0, 1))
        self.assertEqual(self.check(one, net_of(2, [(0, 1, 5, 1), (0, 0, 0, 3)])), (3, 0, 0))
        self.assertEqual(self.check(net_of(1, [(0, 0, 0, 1)]), Net(["a"], [])), (1, 0, 0))

    def test_refused(self):
        for one, other in ((1, 2), (2, 1), (1, 40), (39, 40)):
            with self.assertRaises(Unlike):
                parted(Net(names(one), []), Net(names(other), []))
        with self.assertRaises(Unlike):
            parted(net_of(2, [(0, 0, 1, 1)]), net_of(3, [(0, 0, 1, 1)]))

    def test_drawn(self):
        alike = 0
        for seed, net in drawn_nets(150, most_goings=4, most_arrows=7, most_time=3, most_behind=2):
            chance = Random(seed)
            arrows = list(net.arrows)
            chance.shuffle(arrows)
            if arrows and seed % 2:
                arrows.pop()
            other = Net(net.names, arrows)
            told = self.check(net, other)
            self.assertEqual(told is None, slow_steps(net) == slow_steps(other))
            if told is None:
                alike += 1
                was = draw_was(seed, net, more=4)
                self.assertEqual(run(net, 20, was), run(other, 20, was))
        self.assertTrue(20 < alike < 130)

    def test_steps_as_arrows_make_a_net_alike(self):
        for seed, net in drawn_nets(60, most_goings=4, most_arrows=6):
            arrows = [Back(start, goal, time, behind) for (behind, start, goal), time in steps(net).items()]
            self.assertIsNone(self.check(net, Net(net.names, arrows)))


if __name__ == "__main__":
    unittest.main()
