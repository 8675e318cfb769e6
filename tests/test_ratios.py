import unittest
from fractions import Fraction
from math import gcd

from ringbeat.ratios import later, latest, minus, plus, ratio, scaled, under

# Sixty figures; the two share the divisor BIG_DIVISOR, of thirty-odd figures.
BIG_DIVISOR = 3 ** 70
BIG_TOP = BIG_DIVISOR * 10 ** 25 + BIG_DIVISOR
BIG_BOTTOM = BIG_DIVISOR * 10 ** 26
NINES = 10 ** 60 - 1

SMALL = [ratio(top, bottom) for top in range(-7, 8) for bottom in (1, 2, 3, 4, 6, 9)]
GREAT = [
    (NINES, 1),
    (-NINES, 1),
    (1, NINES),
    (-1, NINES),
    (NINES, NINES - 1),
    (-NINES, NINES - 1),
    (NINES - 1, NINES),
    (0, 1),
]
WHOLES = (-NINES, -12, -2, -1, 0, 1, 2, 3, 12, NINES)


def as_tuple(value):
    return (value.numerator, value.denominator)


def pairs(values):
    return [(one, other) for one in values for other in values]


class Fractions(unittest.TestCase):
    def check_form(self, value):
        self.assertIs(type(value), tuple)
        self.assertEqual([type(part) for part in value], [int, int])
        self.assertGreaterEqual(value[1], 1)
        self.assertEqual(gcd(value[0], value[1]), 1)


class Made(Fractions):
    def test_told_examples(self):
        self.assertEqual(ratio(6, -4), (-3, 2))
        self.assertEqual(ratio(0, 1), (0, 1))
        self.assertEqual(ratio(5, 1), (5, 1))

    def test_signs(self):
        self.assertEqual(ratio(6, 4), (3, 2))
        self.assertEqual(ratio(-6, 4), (-3, 2))
        self.assertEqual(ratio(-6, -4), (3, 2))

    def test_whole_values(self):
        self.assertEqual(ratio(10, 2), (5, 1))
        self.assertEqual(ratio(10, -2), (-5, 1))
        self.assertEqual(ratio(-1, -1), (1, 1))

    def test_bottom_greater_than_top(self):
        self.assertEqual(ratio(2, 8), (1, 4))
        self.assertEqual(ratio(3, 7), (3, 7))

    def test_top_zero(self):
        for bottom in (1, -1, 2, -2, 17, -17, NINES, -NINES):
            with self.subTest(bottom=bottom):
                self.assertEqual(ratio(0, bottom), (0, 1))

    def test_all_small_ones(self):
        for top in range(-30, 31):
            for bottom in list(range(-30, 0)) + list(range(1, 31)):
                made = ratio(top, bottom)
                self.check_form(made)
                self.assertEqual(made, as_tuple(Fraction(top, bottom)), (top, bottom))

    def test_sixty_figures_with_a_great_common_divisor(self):
        self.assertEqual(len(str(BIG_TOP)), 59)
        self.assertEqual(len(str(BIG_BOTTOM)), 60)
        lowest = (10 ** 25 + 1, 10 ** 26)
        self.assertEqual(ratio(BIG_TOP, BIG_BOTTOM), lowest)
        self.assertEqual(ratio(BIG_TOP, -BIG_BOTTOM), (-lowest[0], lowest[1]))
        self.assertEqual(ratio(-BIG_TOP, -BIG_BOTTOM), lowest)
        self.assertEqual(ratio(BIG_BOTTOM, BIG_TOP), (lowest[1], lowest[0]))

    def test_sixty_figures_without_a_common_divisor(self):
        self.assertEqual(ratio(NINES, NINES - 1), (NINES, NINES - 1))
        self.assertEqual(ratio(NINES, -1), (-NINES, 1))
        self.assertEqual(ratio(NINES, NINES), (1, 1))


class Reckoned(Fractions):
    def check_against_python(self, values):
        for one, other in pairs(values):
            left = Fraction(*one)
            right = Fraction(*other)
            self.check_form(plus(one, other))
            self.check_form(minus(one, other))
            self.assertEqual(plus(one, other), as_tuple(left + right), (one, other))
            self.assertEqual(minus(one, other), as_tuple(left - right), (one, other))

    def test_sum_and_difference_told(self):
        self.assertEqual(plus((1, 6), (1, 3)), (1, 2))
        self.assertEqual(plus((1, 2), (-1, 2)), (0, 1))
        self.assertEqual(plus((-5, 2), (1, 3)), (-13, 6))
        self.assertEqual(minus((1, 6), (2, 3)), (-1, 2))
        self.assertEqual(minus((2, 3), (1, 6)), (1, 2))
        self.assertEqual(minus((0, 1), (5, 1)), (-5, 1))
        self.assertEqual(minus((3, 7), (3, 7)), (0, 1))

    def test_small_sums_and_differences(self):
        self.check_against_python(SMALL)

    def test_great_sums_and_differences(self):
        self.check_against_python(GREAT)

    def test_multiples_told(self):
        self.assertEqual(scaled((1, 6), 3), (1, 2))
        self.assertEqual(scaled((1, 6), -3), (-1, 2))
        self.assertEqual(scaled((-2, 3), -6), (4, 1))
        self.assertEqual(scaled((5, 7), 0), (0, 1))
        self.assertEqual(scaled((5, 7), 1), (5, 7))

    def test_multiples(self):
        for one in SMALL + GREAT:
            for whole in WHOLES:
                told = scaled(one, whole)
                self.check_form(told)
                self.assertEqual(told, as_tuple(Fraction(*one) * whole), (one, whole))


class Less(unittest.TestCase):
    def check_under(self, one, other, asked):
        self.assertIs(under(one, other), asked, (one, other))

    def test_told(self):
        self.check_under((1, 3), (1, 2), True)
        self.check_under((1, 2), (1, 3), False)
        self.check_under((-1, 2), (-1, 3), True)
        self.check_under((-1, 3), (-1, 2), False)
        self.check_under((-1, 2), (1, 3), True)
        self.check_under((0, 1), (1, NINES), True)
        self.check_under((-1, NINES), (0, 1), True)

    def test_alike_ones(self):
        for one in SMALL + GREAT:
            self.check_under(one, one, False)
            self.check_under(one, (one[0], one[1]), False)

    def test_a_hair_apart(self):
        less = (NINES - 2, NINES - 1)
        more = (NINES - 1, NINES)
        self.check_under(less, more, True)
        self.check_under(more, less, False)
        self.check_under((-less[0], less[1]), (-more[0], more[1]), False)
        self.check_under((-more[0], more[1]), (-less[0], less[1]), True)
        self.check_under(more, (1, 1), True)
        self.check_under((1, 1), more, False)

    def test_against_python(self):
        for one, other in pairs(SMALL) + pairs(GREAT):
            self.check_under(one, other, Fraction(*one) < Fraction(*other))


class Times(unittest.TestCase):
    def test_later(self):
        for when, more, told in (
            (3, 4, 7),
            (3, -4, -1),
            (-3, 4, 1),
            (-3, -4, -7),
            (0, 0, 0),
            (5, 0, 5),
            (0, -5, -5),
            (NINES, NINES, 2 * NINES),
            (NINES, -NINES, 0),
        ):
            with self.subTest(when=when, more=more):
                self.assertEqual(later(when, more), told)

    def test_never_stays_never(self):
        for more in (-NINES, -1, 0, 1, NINES):
            with self.subTest(more=more):
                self.assertIsNone(later(None, more))

    def test_latest(self):
        for one, other, told in (
            (3, 4, 4),
            (-3, -4, -3),
            (-3, 4, 4),
            (0, -1, 0),
            (0, 1, 1),
            (5, 5, 5),
            (NINES, NINES - 1, NINES),
            (-NINES, 1 - NINES, 1 - NINES),
        ):
            with self.subTest(one=one, other=other):
                self.assertEqual(latest(one, other), told)
                self.assertEqual(latest(other, one), told)

    def test_latest_of_a_time_and_never(self):
        for when in (-NINES, -1, 0, 1, NINES):
            with self.subTest(when=when):
                self.assertEqual(latest(when, None), when)
                self.assertEqual(latest(None, when), when)

    def test_latest_of_never_and_never(self):
        self.assertIsNone(latest(None, None))


if __name__ == "__main__":
    unittest.main()
