import unittest
from random import Random

from drawn import MOST_TIME, draw_net, drawn_nets, great_net, names, net_of, parts
from ringbeat.arrows import Back, Ride, Wait
from ringbeat.errors import BadNet, Stuck
from ringbeat.nets import Net, leads_to


class Refusals(unittest.TestCase):
    def check_bad(self, told, arrows, at):
        with self.assertRaises(BadNet) as caught:
            Net(told, arrows)
        self.assertEqual(caught.exception.at, at)

    def check_stuck(self, told, arrows):
        with self.assertRaises(Stuck) as caught:
            Net(told, arrows)
        ring = caught.exception.ring
        self.assertIs(type(ring), list)
        self.assertGreaterEqual(len(ring), 1)
        goals = [arrows[number].goal for number in ring]
        self.assertEqual([arrows[number].start for number in ring], goals[-1:] + goals[:-1])
        self.assertEqual(len(set(goals)), len(goals))
        self.assertEqual([arrows[number].behind for number in ring], [0] * len(ring))
        return ring


class Names(Refusals):
    def test_right_ones(self):
        for told in (["a"], ["z9"], ["abcdefgh"], ["a1234567"], ["a", "b", "aa", "a0"], ["goings"], names(40)):
            with self.subTest(told=told):
                self.assertEqual(Net(told, []).names, told)

    def test_none_and_too_many(self):
        self.check_bad([], [], None)
        self.assertEqual(len(Net(names(40), []).names), 40)
        self.check_bad(names(41), [], None)

    def test_a_name_twice(self):
        self.check_bad(["a", "a"], [], None)
        self.check_bad(["a", "b", "c", "b"], [], None)
        self.check_bad(names(39) + ["g0"], [], None)

    def test_words_that_are_no_names(self):
        wrong = ["", "abcdefghi", "a23456789", "1", "1a", "0", "A", "aB", "Abc", " ", "a ", " a", "a b", "a_b", "a-b"]
        wrong += ["a\n", "\na", "a.", "_a", "a\t", "\u00e4", "a\u00e4", "a\u0663", "a\u00b2", "{", "a`", "a/", "a:"]
        for word in wrong:
            with self.subTest(word=word):
                self.check_bad([word], [], None)
                self.check_bad(["b", word], [], None)
                self.check_bad([word, "b"], [], None)

    def test_what_is_no_text(self):
        for thing in (None, 1, 0, True, ["a"], ("a",), {"a": 1}, b"a", 1.5):
            with self.subTest(thing=thing):
                self.check_bad([thing], [], None)
                self.check_bad(["a", thing], [], None)

    def test_what_is_no_list(self):
        for thing in (None, "a", "abc", ("a", "b"), 3, {"a": 1}):
            with self.subTest(thing=thing):
                self.check_bad(thing, [], None)


class Arrows(Refusals):
    def test_too_many(self):
        self.assertEqual(len(Net(["a"], [Back(0, 0, 1)] * 120).arrows), 120)
        self.check_bad(["a"], [Back(0, 0, 1)] * 121, None)
        self.check_bad(["a"], [Back(0, 0, 1)] * 500, None)

    def test_names_and_too_many_come_ahead_of_a_wrong_arrow(self):
        wrong = Ride(0, 5, 1)
        self.check_bad(["A"], [wrong], None)
        self.check_bad([], [wrong], None)
        self.check_bad(["a", "a"], [wrong], None)
        self.check_bad(["a"], [wrong] * 121, None)
        self.check_bad(["a"], [wrong] + [Back(0, 0, 1)] * 120, None)

    def test_names_and_too_many_come_ahead_of_a_ring(self):
        self.check_bad(["A"], [Ride(0, 0, 1)], None)
        self.check_bad(["a"], [Ride(0, 0, 1)] * 121, None)

    def test_start_and_goal(self):
        for kind in (Ride, Wait, Back):
            for start, goal in ((-1, 0), (0, -1), (2, 0), (0, 2), (-2, -2), (40, 40), (10 ** 59, 0)):
                with self.subTest(kind=kind, start=start, goal=goal):
                    self.check_bad(["a", "b"], [kind(start, goal, 1)], 0)
            Net(["a", "b"], [kind(0, 1, 1)])
            Net(["a", "b"], [kind(1, 0, 1)])
        self.check_bad(names(40), [Wait(0, 40, 1, 1)], 0)
        Net(names(40), [Wait(39, 39, 1, 1)])

    def test_time(self):
        for kind in (Ride, Wait, Back):
            for time in (-1, MOST_TIME + 1, -MOST_TIME, 10 ** 59):
                with self.subTest(kind=kind, time=time):
                    self.check_bad(["a", "b"], [kind(0, 1, time)], 0)
            for time in (0, 1, MOST_TIME - 1, MOST_TIME):
                self.assertEqual(Net(["a", "b"], [kind(0, 1, time)]).arrows[0].time, time)

    def test_behind(self):
        for behind in (0, 1, 2, 3, 4):
            self.assertEqual(Net(["a", "b"], [Wait(0, 1, 1, behind)]).arrows[0].behind, behind)
        for behind in (1, 2, 3, 4):
            self.assertEqual(Net(["a", "b"], [Back(0, 1, 1, behind)]).arrows[0].behind, behind)
        for behind in (-1, -4, 5, 6, 10 ** 59):
            with self.subTest(behind=behind):
                self.check_bad(["a", "b"], [Wait(0, 1, 1, behind)], 0)
                self.check_bad(["a", "b"], [Back(0, 1, 1, behind)], 0)
        self.check_bad(["a", "b"], [Back(0, 1, 1, 0)], 0)

    def test_what_is_no_whole_number(self):
        for thing in (True, False, None, "1", 0.5, [1]):
            with self.subTest(thing=thing):
                self.check_bad(["a", "b"], [Back(0, 1, 1), Wait(thing, 1, 1)], 1)
                self.check_bad(["a", "b"], [Back(0, 1, 1), Wait(0, thing, 1)], 1)
                self.check_bad(["a", "b"], [Back(0, 1, 1), Wait(0, 1, thing)], 1)
                self.check_bad(["a", "b"], [Back(0, 1, 1), Wait(0, 1, 1, thing)], 1)

    def test_a_back_of_behind_0_is_wrong_ahead_of_being_a_ring(self):
        self.check_bad(["a"], [Back(0, 0, 1, 0)], 0)

    def test_the_first_wrong_arrow_is_told(self):
        good = [Ride(0, 1, 1), Back(1, 0, 1)]
        self.check_bad(["a", "b"], good + [Ride(0, 2, 1), Ride(0, 1, -1)], 2)
        self.check_bad(["a", "b"], good * 59 + [Wait(0, 1, 1, 5)], 118)
        self.check_bad(["a", "b"], [Back(0, 1, 1, 0)] + good + [Ride(-1, 0, 0)], 0)

    def test_a_wrong_arrow_comes_ahead_of_a_ring(self):
        self.check_bad(["a", "b"], [Ride(0, 0, 1), Ride(0, 1, -1)], 1)
        self.check_bad(["a", "b"], [Ride(0, 1, 1), Ride(1, 0, 1), Wait(0, 0, 1, 9)], 2)

    def test_alike_arrows_are_allowed(self):
        arrow = Ride(0, 1, 5)
        net = Net(["a", "b"], [arrow, Ride(0, 1, 5), arrow])
        self.assertEqual(parts(net), [(Ride, 0, 1, 5, 0)] * 3)


class Rings(Refusals):
    def test_of_one_arrow(self):
        self.assertEqual(self.check_stuck(["a"], [Ride(0, 0, 5)]), [0])
        self.assertEqual(self.check_stuck(["a"], [Back(0, 0, 5), Wait(0, 0, 0)]), [1])

    def test_of_two_arrows(self):
        self.assertEqual(sorted(self.check_stuck(["a", "b"], [Ride(0, 1, 0), Wait(1, 0, 0)])), [0, 1])

    def test_of_all_forty_goings(self):
        arrows = [Ride(going, (going + 1) % 40, 1) for going in range(40)]
        self.assertEqual(sorted(self.check_stuck(names(40), arrows)), list(range(40)))
        arrows = [Wait((going + 7) % 40, going, 0) for going in range(40)]
        self.assertEqual(sorted(self.check_stuck(names(40), arrows)), list(range(40)))

    def test_with_arrows_to_it_and_from_it(self):
        arrows = [Ride(0, 1, 1), Ride(1, 2, 1), Ride(2, 1, 1), Ride(2, 3, 1), Ride(3, 4, 1), Ride(0, 4, 1)]
        self.assertEqual(sorted(self.check_stuck(names(5), arrows)), [1, 2])

    def test_behind_a_ring(self):
        arrows = [Ride(2, 1, 1), Ride(1, 0, 1), Ride(2, 2, 1)]
        self.assertEqual(self.check_stuck(names(3), arrows), [2])

    def test_two_rings_with_a_going_in_common(self):
        arrows = [Ride(0, 1, 1), Ride(1, 0, 1), Ride(1, 2, 1), Ride(2, 1, 1)]
        self.assertIn(sorted(self.check_stuck(names(3), arrows)), ([0, 1], [2, 3]))

    def test_an_arrow_of_another_behind_breaks_it(self):
        for behind in (1, 2, 3, 4):
            Net(["a", "b"], [Ride(0, 1, 0), Wait(1, 0, 0, behind)])
            Net(["a"], [Wait(0, 0, 0, behind)])

    def test_arrows_of_other_behinds_are_none_of_the_ring(self):
        arrows = [Ride(0, 1, 1), Ride(1, 0, 1), Back(0, 1, 1), Back(1, 0, 1), Back(0, 0, 1), Back(1, 1, 1)]
        self.assertEqual(sorted(self.check_stuck(names(2), arrows)), [0, 1])
        self.assertEqual(sorted(self.check_stuck(names(2), arrows[::-1])), [4, 5])
        arrows = [Ride(0, 1, 1), Back(1, 0, 1), Ride(1, 2, 1), Ride(2, 1, 1), Back(2, 0, 1), Back(0, 2, 1)]
        self.assertEqual(sorted(self.check_stuck(names(3), arrows)), [2, 3])

    def test_drawn_of_all_behinds(self):
        found = 0
        for seed, net in drawn_nets(300, most_goings=6, most_arrows=16):
            chance = Random(seed)
            arrows = [Wait(arrow.start, arrow.goal, 1, chance.choice((0, 0, 1, 2))) for arrow in net.arrows]
            try:
                Net(net.names, arrows)
            except Stuck:
                found += 1
                self.check_stuck(net.names, arrows)
        self.assertTrue(50 < found < 290)

    def test_drawn(self):
        for seed, net in drawn_nets(150, most_goings=7, most_arrows=14):
            turned = [Wait(arrow.start, arrow.goal, arrow.time, 0) for arrow in net.arrows]
            stuck = False
            try:
                Net(net.names, turned)
            except Stuck:
                stuck = True
                self.check_stuck(net.names, turned)
            reached = closure(net)
            self.assertEqual(stuck, any(going in reached[going] for going in range(len(net.names))), seed)


def closure(net):
    """For each going those that can be come to by one arrow or more."""
    reached = [{arrow.goal for arrow in net.arrows if arrow.start == going} for going in range(len(net.names))]
    for step in net.names:
        reached = [goals.union(*[reached[goal] for goal in goals]) for goals in reached]
    return reached


class OwnLists(unittest.TestCase):
    def test_the_lists_handed_in_are_let_go(self):
        told = ["a", "b"]
        arrows = [Ride(0, 1, 5), Back(1, 0, 2, 3)]
        net = Net(told, arrows)
        told.append("c")
        told[0] = "x"
        arrows.append(Ride(0, 1, 7))
        arrows[0] = Ride(1, 0, 9)
        self.assertEqual(net.names, ["a", "b"])
        self.assertEqual(parts(net), [(Ride, 0, 1, 5, 0), (Back, 1, 0, 2, 3)])
        self.assertEqual((net.most_behind(), net.into(0), net.into(1)), (3, [1], [0]))
        self.assertEqual(net.order(), [0, 1])
        self.assertEqual(leads_to(net, 0), [0, 1])

    def test_the_lists_handed_in_stay(self):
        told = ["b", "a"]
        arrows = [Ride(1, 0, 5), Ride(1, 0, 5)]
        kept = list(arrows)
        net = Net(told, arrows)
        net.into(0).append(9)
        net.order().reverse()
        leads_to(net, 0).clear()
        self.assertEqual((told, arrows), (["b", "a"], kept))

    def test_what_is_told_is_the_askers_own(self):
        net = Net(["a", "b"], [Ride(0, 1, 5), Back(1, 0, 2)])
        for tell in (lambda: net.into(1), net.order, lambda: leads_to(net, 1)):
            first = tell()
            kept = list(first)
            first.append(7)
            first[0] = 99
            self.assertEqual(tell(), kept)


class MostBehind(unittest.TestCase):
    def test_without_arrows(self):
        self.assertEqual(Net(["a"], []).most_behind(), 1)
        self.assertEqual(Net(names(40), []).most_behind(), 1)

    def test_behinds_all_0(self):
        self.assertEqual(net_of(3, [(0, 1, 5, 0), (1, 2, 5, 0)]).most_behind(), 1)

    def test_up_to_4(self):
        for behind in (1, 2, 3, 4):
            self.assertEqual(net_of(2, [(0, 1, 5, 0), (1, 0, 5, behind)]).most_behind(), behind)
            self.assertEqual(net_of(2, [(0, 0, 1, behind), (0, 1, 5, 1)]).most_behind(), behind)


class Into(unittest.TestCase):
    def test_rising(self):
        net = net_of(3, [(0, 1, 5, 0), (1, 2, 5, 0), (2, 1, 1, 4), (1, 1, 0, 1), (0, 1, 5, 0)])
        self.assertEqual([net.into(going) for going in (0, 1, 2)], [[], [0, 2, 3, 4], [1]])

    def test_drawn(self):
        for seed, net in drawn_nets(60):
            for going in range(len(net.names)):
                told = net.into(going)
                self.assertIs(type(told), list)
                self.assertEqual(told, [k for k in range(len(net.arrows)) if net.arrows[k].goal == going], seed)


class Order(unittest.TestCase):
    def check_order(self, net):
        told = net.order()
        self.assertIs(type(told), list)
        self.assertEqual(sorted(told), list(range(len(net.names))))
        for arrow in net.arrows:
            if arrow.behind == 0:
                self.assertLess(told.index(arrow.start), told.index(arrow.goal))

    def test_without_arrows(self):
        self.check_order(Net(["a"], []))
        self.check_order(Net(names(40), []))

    def test_a_long_way_downwards(self):
        net = net_of(40, [(going + 1, going, 1, 0) for going in range(39)] + [(0, 39, 1, 1)])
        self.check_order(net)
        self.assertEqual(net.order(), list(range(39, -1, -1)))

    def test_alike_arrows(self):
        self.check_order(net_of(3, [(2, 0, 1, 0), (2, 0, 1, 0), (0, 1, 1, 0), (2, 1, 1, 0)]))

    def test_drawn(self):
        for seed, net in drawn_nets(150, most_goings=9, most_arrows=25):
            self.check_order(net)
        for seed in range(5):
            self.check_order(great_net(seed))


class LeadsTo(unittest.TestCase):
    def test_itself(self):
        self.assertEqual(leads_to(Net(["a", "b"], []), 1), [1])
        self.assertEqual(leads_to(net_of(2, [(0, 1, 3, 0)]), 0), [0])

    def test_along_any_behind(self):
        for behind in (0, 1, 2, 3, 4):
            net = net_of(4, [(3, 1, 3, behind), (2, 3, 1, behind), (1, 0, 1, behind)])
            self.assertEqual([leads_to(net, going) for going in range(4)], [[0, 1, 2, 3], [1, 2, 3], [2], [2, 3]])

    def test_rings(self):
        net = net_of(5, [(4, 2, 0, 1), (2, 4, 0, 1), (2, 0, 0, 1), (3, 3, 0, 1)])
        self.assertEqual([leads_to(net, going) for going in range(5)], [[0, 2, 4], [1], [2, 4], [3], [2, 4]])

    def test_forty_goings(self):
        net = net_of(40, [(going, going + 1, 1, 0) for going in range(39)])
        self.assertEqual(leads_to(net, 39), list(range(40)))
        self.assertEqual(leads_to(net, 0), [0])

    def test_drawn(self):
        nets = [net for seed, net in drawn_nets(100, most_goings=8, most_arrows=10)] + [draw_net(0, 40, 50)]
        for net in nets:
            reached = closure(net)
            for going in range(len(net.names)):
                told = leads_to(net, going)
                self.assertIs(type(told), list)
                asked = [start for start in range(len(net.names)) if start == going or going in reached[start]]
                self.assertEqual(told, asked)


if __name__ == "__main__":
    unittest.main()
