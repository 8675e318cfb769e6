import unittest

from ringbeat.arrows import Arrow, Back, Ride, Wait


def fields(arrow):
    return (arrow.start, arrow.goal, arrow.time, arrow.behind)


class FieldsOfArrows(unittest.TestCase):
    def test_by_place(self):
        self.assertEqual(fields(Ride(0, 1, 5)), (0, 1, 5, 0))
        self.assertEqual(fields(Wait(1, 0, 3, 2)), (1, 0, 3, 2))
        self.assertEqual(fields(Back(1, 0, 7, 4)), (1, 0, 7, 4))

    def test_by_name(self):
        self.assertEqual(fields(Ride(time=5, goal=1, start=0)), (0, 1, 5, 0))
        self.assertEqual(fields(Wait(behind=2, time=3, goal=0, start=1)), (1, 0, 3, 2))
        self.assertEqual(fields(Back(behind=4, time=7, goal=0, start=1)), (1, 0, 7, 4))

    def test_behind_left_out(self):
        self.assertEqual(fields(Wait(1, 0, 3)), (1, 0, 3, 0))
        self.assertEqual(fields(Back(1, 0, 7)), (1, 0, 7, 1))
        self.assertEqual(fields(Wait(start=1, goal=0, time=3)), (1, 0, 3, 0))
        self.assertEqual(fields(Back(start=1, goal=0, time=7)), (1, 0, 7, 1))

    def test_behind_told_as_it_is_left_out_or_otherwise(self):
        self.assertEqual(Wait(1, 0, 3, 0).behind, 0)
        self.assertEqual(Wait(1, 0, 3, behind=1).behind, 1)
        self.assertEqual(Back(1, 0, 7, 1).behind, 1)
        self.assertEqual(Back(1, 0, 7, behind=2).behind, 2)

    def test_a_ride_takes_no_behind(self):
        with self.assertRaises(TypeError):
            Ride(0, 1, 5, 1)

    def test_from_a_going_to_itself(self):
        for kind in (Ride, Wait, Back):
            with self.subTest(kind=kind):
                arrow = kind(2, 2, 0)
                self.assertEqual((arrow.start, arrow.goal, arrow.time), (2, 2, 0))

    def test_an_arrow_looks_at_nothing(self):
        self.assertEqual(fields(Ride(-1, 99, -5)), (-1, 99, -5, 0))
        self.assertEqual(fields(Wait(-1, 99, 10 ** 59, -3)), (-1, 99, 10 ** 59, -3))
        self.assertEqual(fields(Back(-1, 99, -5, 0)), (-1, 99, -5, 0))
        self.assertEqual(fields(Back(41, 40, 10 ** 9 + 1, 5)), (41, 40, 10 ** 9 + 1, 5))

    def test_fields_are_each_arrows_own(self):
        one = Wait(0, 1, 2)
        other = Wait(3, 4, 5, 6)
        self.assertEqual(fields(one), (0, 1, 2, 0))
        self.assertEqual(fields(other), (3, 4, 5, 6))


class Kinds(unittest.TestCase):
    def test_each_is_an_arrow_and_none_of_the_other_kinds(self):
        for one in (Ride, Wait, Back):
            self.assertIsInstance(one(0, 1, 2), Arrow)
            for other in (Ride, Wait, Back):
                with self.subTest(one=one, other=other):
                    self.assertEqual(isinstance(one(0, 1, 2), other), one is other)

    def test_words(self):
        self.assertEqual(Ride(0, 1, 5).word(), "ride")
        self.assertEqual(Wait(0, 1, 5).word(), "wait")
        self.assertEqual(Back(0, 1, 5).word(), "back")

    def test_may_drop(self):
        self.assertIs(Ride(0, 1, 5).may_drop(), False)
        self.assertIs(Wait(0, 1, 5).may_drop(), True)
        self.assertIs(Wait(0, 1, 5, 3).may_drop(), True)
        self.assertIs(Back(0, 1, 5).may_drop(), False)


class Rows(unittest.TestCase):
    def test_told_examples(self):
        names = ["a", "b"]
        self.assertEqual(Ride(0, 1, 5).row(names), "ride a b 5")
        self.assertEqual(Wait(1, 0, 3).row(names), "wait b a 3 0")
        self.assertEqual(Back(1, 0, 7).row(names), "back b a 7 1")

    def test_behinds_told(self):
        names = ["a", "b"]
        self.assertEqual(Wait(1, 0, 3, 4).row(names), "wait b a 3 4")
        self.assertEqual(Back(1, 0, 7, 2).row(names), "back b a 7 2")

    def test_longer_names_and_times(self):
        names = ["north1", "x", "southend"]
        self.assertEqual(Ride(2, 0, 10 ** 9).row(names), "ride southend north1 1000000000")
        self.assertEqual(Wait(0, 0, 0).row(names), "wait north1 north1 0 0")
        self.assertEqual(Back(1, 2, 12, 3).row(names), "back x southend 12 3")

    def test_names_by_their_numbers_in_the_list_handed_in(self):
        arrow = Ride(0, 1, 5)
        self.assertEqual(arrow.row(["a", "b"]), "ride a b 5")
        self.assertEqual(arrow.row(["q", "r", "s"]), "ride q r 5")

    def test_names_stay_as_they_were(self):
        for kind in (Ride, Wait, Back):
            with self.subTest(kind=kind):
                names = ["c", "a", "b"]
                arrow = kind(2, 0, 5)
                arrow.row(names)
                self.assertEqual(names, ["c", "a", "b"])

    def test_a_row_changes_nothing_in_the_arrow(self):
        for arrow in (Ride(0, 1, 5), Wait(0, 1, 5, 2), Back(0, 1, 5, 3)):
            ahead = fields(arrow)
            first = arrow.row(["a", "b"])
            self.assertEqual(fields(arrow), ahead)
            self.assertEqual(arrow.row(["a", "b"]), first)


if __name__ == "__main__":
    unittest.main()
