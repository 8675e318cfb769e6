import copy
import unittest

from ringbeat.almanac import almanac


class Almanac(unittest.TestCase):
    def check(self, told_names, rows, first, lines):
        text = almanac(told_names, rows, first)
        self.assertIs(type(text), str)
        self.assertEqual(text.split("\n"), lines)

    def test_example(self):
        self.check(["a", "bc"], [[2, None], [13, -7]], 9, ["round  a bc", "00009  2  -", "00010 13 -7"])

    def test_no_rows(self):
        self.check(["a", "bc"], [], 0, ["round a bc"])
        self.check(["a"], [], 10 ** 9, ["round a"])

    def test_no_names(self):
        self.check([], [[], []], 7, ["round", "00007", "00008"])
        self.check([], [], 0, ["round"])

    def test_numbers_of_several_widths(self):
        self.check(["a"], [[1]], 0, ["round a", "00000 1"])
        self.check(["a"], [[1], [2]], 99999, ["round  a", "099999 1", "100000 2"])
        self.check(["a"], [[1], [2]], 9999999, ["round    a", "09999999 1", "10000000 2"])
        self.check([], [[]], 123456, ["round ", "123456"])

    def test_each_column_is_as_wide_as_its_longest_word(self):
        rows = [[1, 1000, None], [22, 5, 7], [333, -50000, 88]]
        lines = ["round   a longname  c", "00000   1     1000  -", "00001  22        5  7", "00002 333   -50000 88"]
        self.check(["a", "longname", "c"], rows, 0, lines)

    def test_nevers(self):
        self.check(["a", "bcd"], [[None, None], [None, 12345]], 0, ["round a   bcd", "00000 -     -", "00001 - 12345"])

    def test_times_below_0(self):
        self.check(["a"], [[-1], [0], [-100]], 0, ["round    a", "00000   -1", "00001    0", "00002 -100"])

    def test_sixty_figures(self):
        great = 10 ** 60 - 1
        lines = ["round " + " " * 60 + "a", "00000  " + "9" * 60, "00001 -" + "9" * 60]
        self.check(["a"], [[great], [-great]], 0, lines)

    def test_four_hundred_rows(self):
        lines = almanac(["a"], [[number] for number in range(400)], 0).split("\n")
        self.assertEqual(lines[0], "round   a")
        self.assertEqual(lines[1:], [f"{number:05d} {number:3d}" for number in range(400)])

    def test_what_is_handed_in_stays(self):
        told_names, rows = ["a", "b"], [[1, None], [2, -3]]
        kept = copy.deepcopy((told_names, rows))
        almanac(told_names, rows, 5)
        self.assertEqual((told_names, rows), kept)


if __name__ == "__main__":
    unittest.main()
