import unittest

from drawn import draw_table, drawn_tables, is_way, names, net_of
from ringbeat.late import late
from ringbeat.nets import Net
from ringbeat.spare import spare
from ringbeat.tables import Table

# Slacks 3, 4, 9, 0, 2.
NET = net_of(4, [(0, 1, 2, 0), (1, 2, 1, 0), (0, 2, 1, 0), (2, 0, 10, 1), (1, 1, 18, 1)])
TABLE = Table(NET, [0, 5, 10, 7], 20)


def slow_prices(table, one):
    """The least slack of a way to each going, of ways with ever more arrows."""
    prices = [None] * len(table.times)
    prices[one] = 0
    for count in table.times:
        ahead = list(prices)
        for number, arrow in enumerate(table.net.arrows):
            if ahead[arrow.start] is not None:
                price = ahead[arrow.start] + table.slack(number)
                if prices[arrow.goal] is None or price < prices[arrow.goal]:
                    prices[arrow.goal] = price
    return prices


class Spare(unittest.TestCase):
    def check(self, table, one, other):
        told = spare(table, one, other)
        prices = slow_prices(table, one)
        if prices[other] is None:
            self.assertIsNone(told)
            return None
        self.assertIs(type(told), tuple)
        amount, way, told_prices = told
        self.assertEqual([type(way), type(told_prices)], [list, list])
        self.assertEqual((amount, told_prices), (prices[other], prices))
        self.assertTrue(is_way(table.net, way, one, other))
        self.assertEqual(sum(table.slack(number) for number in way), amount)
        visited = [one] + [table.net.arrows[number].goal for number in way]
        self.assertEqual(len(set(visited)), len(visited))
        return told

    def test_told(self):
        self.assertEqual([TABLE.slack(number) for number in range(5)], [3, 4, 9, 0, 2])
        self.assertEqual(self.check(TABLE, 0, 2), (7, [0, 1], [0, 3, 7, None]))
        self.assertEqual(self.check(TABLE, 0, 1), (3, [0], [0, 3, 7, None]))
        self.assertEqual(self.check(TABLE, 2, 1), (3, [3, 0], [0, 3, 0, None]))
        self.assertEqual(self.check(TABLE, 1, 0), (4, [1, 3], [4, 0, 4, None]))

    def test_a_going_for_itself(self):
        for going, prices in ((0, [0, 3, 7, None]), (1, [4, 0, 4, None]), (3, [None, None, None, 0])):
            self.assertEqual(self.check(TABLE, going, going), (0, [], prices))
        self.assertEqual(spare(Table(Net(["a"], []), [5], 0), 0, 0), (0, [], [0]))

    def test_no_way(self):
        for going in (0, 1, 2):
            self.assertIsNone(spare(TABLE, going, 3))
            self.assertIsNone(spare(TABLE, 3, going))
        self.assertIsNone(spare(Table(net_of(2, [(0, 1, 0, 0)]), [0, 0], 0), 1, 0))

    def test_rings_without_slack(self):
        net = net_of(3, [(0, 1, 0, 1), (1, 0, 0, 1), (1, 2, 0, 1), (2, 1, 0, 1), (0, 0, 0, 1)])
        table = Table(net, [0, 0, 0], 0)
        for one in range(3):
            for other in range(3):
                self.assertEqual(self.check(table, one, other)[0], 0)

    def test_a_long_way(self):
        net = net_of(40, [(going + 1, going, 0, 0) for going in range(39)])
        table = Table(net, [5 * (39 - going) for going in range(40)], 0)
        self.assertEqual(self.check(table, 39, 0)[:2], (39 * 5, list(range(38, -1, -1))))

    def test_the_better_one_of_alike_ways(self):
        table = Table(net_of(2, [(0, 1, 4, 0), (0, 1, 6, 0), (0, 1, 5, 0), (0, 1, 6, 1)]), [0, 10], 1)
        self.assertEqual(self.check(table, 0, 1)[:2], (4, [1]))

    def test_what_is_told_is_new(self):
        first = spare(TABLE, 0, 2)
        first[1].clear()
        first[2].clear()
        self.assertEqual(spare(TABLE, 0, 2), (7, [0, 1], [0, 3, 7, None]))

    def check_puts(self, table, one, other, number):
        told = spare(table, one, other)
        if told is None:
            self.assertEqual([row[other] for row in late(table, 60, [(one, number, 10 ** 6)])], [0] * 60)
            return
        amount, way, prices = told
        behinds = sum(table.net.arrows[step].behind for step in way)
        for put in {0, amount // 2, amount}:
            self.assertEqual([row[other] for row in late(table, 60, [(one, number, put)])], [0] * 60)
        self.assertEqual(late(table, number + behinds + 1, [(one, number, amount + 1)])[-1][other], 1)

    def test_puts_of_the_amount_and_of_one_more(self):
        for one in range(4):
            for other in range(4):
                if one != other:
                    self.check_puts(TABLE, one, other, 2)
        for going in range(4):
            self.assertEqual(late(TABLE, 3, [(going, 2, 0)])[2][going], 0)
            self.assertEqual(late(TABLE, 3, [(going, 2, 1)])[2][going], 1)

    def test_drawn(self):
        for seed, table in drawn_tables(80):
            for one in range(len(table.times)):
                for other in range(len(table.times)):
                    self.check(table, one, other)
                    self.check_puts(table, one, other, seed % 3)

    def test_great_tables(self):
        for seed in range(4):
            table = draw_table(seed, 40, 120, beat=60, scale=10 ** 6, most_slack=10 ** 6)
            for one, other in ((0, 39), (39, 0), (7, 8), (20, 20)):
                self.check(table, one, other)

    def test_names_play_no_part(self):
        self.assertEqual(spare(Table(Net(names(2), []), [0, 0], 0), 0, 0), (0, [], [0, None]))


if __name__ == "__main__":
    unittest.main()
