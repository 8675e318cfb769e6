import unittest

from drawn import draw_was, drawn_nets, names, net_of
from ringbeat.errors import NoFit
from ringbeat.nets import Net
from ringbeat.tables import Table

NET = net_of(2, [(0, 1, 4, 0), (1, 0, 4, 1)])


class Tables(unittest.TestCase):
    def test_fields(self):
        table = Table(NET, [0, 5], 10)
        self.assertIs(table.net, NET)
        self.assertEqual((table.times, table.beat), ([0, 5], 10))
        self.assertIs(type(table.times), list)

    def test_slack(self):
        table = Table(NET, [0, 5], 10)
        self.assertEqual([table.slack(0), table.slack(1)], [1, 1])
        tight = Table(NET, [0, 4], 8)
        self.assertEqual([tight.slack(0), tight.slack(1)], [0, 0])
        net = net_of(2, [(0, 1, 3, 4), (1, 0, 2, 2), (0, 0, 1, 3), (1, 1, 0, 1)])
        table = Table(net, [100, 40], 50)
        self.assertEqual([table.slack(k) for k in range(4)], [40 + 200 - 100 - 3, 100 + 100 - 40 - 2, 149, 50])

    def test_planned(self):
        table = Table(NET, [3, 8], 10)
        self.assertEqual([table.planned(0, k) for k in (0, 1, 2, 400)], [3, 13, 23, 4003])
        self.assertEqual([table.planned(1, k) for k in (0, 1, 2, 400)], [8, 18, 28, 4008])

    def test_greatest_numbers(self):
        great = 10 ** 12
        table = Table(net_of(1, [(0, 0, 10 ** 9, 4)]), [great], great)
        self.assertEqual(table.slack(0), 4 * great - 10 ** 9)
        self.assertEqual(table.planned(0, 400), 401 * great)

    def test_beat_0(self):
        table = Table(net_of(2, [(0, 1, 0, 4), (1, 0, 0, 1)]), [7, 7], 0)
        self.assertEqual([table.slack(0), table.slack(1), table.planned(1, 9)], [0, 0, 7])

    def test_without_arrows(self):
        self.assertEqual(Table(Net(names(2), []), [9, 0], 0).times, [9, 0])

    def test_the_list_of_times_handed_in(self):
        times = [0, 5]
        table = Table(NET, times, 10)
        times[1] = 99
        times.append(3)
        self.assertEqual(table.times, [0, 5])
        self.assertEqual((table.slack(0), table.slack(1), table.planned(1, 1)), (1, 1, 15))
        times = [0, 5]
        Table(NET, times, 10)
        self.assertEqual(times, [0, 5])


class Refusals(unittest.TestCase):
    def check_no_fit(self, net, times, beat, arrow):
        with self.assertRaises(NoFit) as caught:
            Table(net, times, beat)
        self.assertEqual(caught.exception.arrow, arrow)

    def test_by_one(self):
        self.check_no_fit(NET, [0, 3], 10, 0)
        self.check_no_fit(NET, [0, 7], 10, 1)
        Table(NET, [0, 4], 10)
        Table(NET, [0, 6], 10)

    def test_the_least_number(self):
        net = net_of(3, [(0, 1, 1, 0), (1, 2, 5, 0), (0, 2, 9, 0), (2, 0, 1, 1)])
        self.check_no_fit(net, [0, 1, 2], 100, 1)
        self.check_no_fit(net, [0, 0, 0], 0, 0)
        self.check_no_fit(net, [0, 1, 6], 100, 2)
        self.check_no_fit(net, [0, 1, 9], 9, 3)
        Table(net, [0, 1, 9], 10)

    def test_an_arrow_from_a_going_to_itself(self):
        net = net_of(1, [(0, 0, 7, 2)])
        self.check_no_fit(net, [5], 3, 0)
        self.check_no_fit(net, [5], 0, 0)
        Table(net, [5], 4)

    def test_drawn(self):
        refused = 0
        for seed, net in drawn_nets(150, most_goings=4, most_arrows=4):
            times = [abs(time) for time in draw_was(seed, net, nevers=False)[0]]
            beat = seed % 25
            slacks = []
            for arrow in net.arrows:
                slacks.append(times[arrow.goal] + beat * arrow.behind - times[arrow.start] - arrow.time)
            wrong = [number for number, slack in enumerate(slacks) if slack < 0]
            if wrong:
                refused += 1
                self.check_no_fit(net, times, beat, wrong[0])
            else:
                table = Table(net, times, beat)
                self.assertEqual([table.slack(number) for number in range(len(net.arrows))], slacks)
        self.assertTrue(30 < refused < 120)


if __name__ == "__main__":
    unittest.main()
