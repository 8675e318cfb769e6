import unittest

from ringbeat import errors

# Each refusal with its field and a value of the field's kind.
FIELDS = (
    (errors.BadNet, "at", 3),
    (errors.BadNet, "at", None),
    (errors.Stuck, "ring", [2, 0, 1]),
    (errors.Loose, "going", 0),
    (errors.NoFit, "arrow", 119),
    (errors.TooMany, "many", 9),
    (errors.NoRow, "at", 0),
    (errors.BadName, "name", "a1"),
    (errors.BadName, "name", ""),
)
KINDS = (
    errors.BadNet,
    errors.Stuck,
    errors.Loose,
    errors.NoFit,
    errors.TooMany,
    errors.Unlike,
    errors.NoRow,
    errors.BadName,
)


class Family(unittest.TestCase):
    def test_base_is_right_under_value_error(self):
        self.assertEqual(errors.BeatError.__bases__, (ValueError,))

    def test_each_is_right_under_the_base(self):
        for kind in KINDS:
            with self.subTest(kind=kind):
                self.assertEqual(kind.__bases__, (errors.BeatError,))

    def test_none_is_under_another(self):
        for one in KINDS:
            for other in KINDS:
                with self.subTest(one=one, other=other):
                    self.assertEqual(issubclass(one, other), one is other)

    def test_there_are_no_other_refusals(self):
        found = [value for value in vars(errors).values() if isinstance(value, type)]
        self.assertEqual(set(found), set(KINDS) | {errors.BeatError})

    def test_names(self):
        names = ["BadNet", "Stuck", "Loose", "NoFit", "TooMany", "Unlike", "NoRow", "BadName"]
        self.assertEqual([kind.__name__ for kind in KINDS], names)


class Fields(unittest.TestCase):
    def test_field_by_place(self):
        for kind, field, value in FIELDS:
            with self.subTest(kind=kind, value=value):
                self.assertEqual(getattr(kind(value), field), value)

    def test_field_by_name(self):
        for kind, field, value in FIELDS:
            with self.subTest(kind=kind, value=value):
                self.assertEqual(getattr(kind(**{field: value}), field), value)

    def test_field_of_a_raised_one(self):
        for kind, field, value in FIELDS:
            with self.subTest(kind=kind, value=value):
                with self.assertRaises(errors.BeatError) as caught:
                    raise kind(value)
                self.assertIs(type(caught.exception), kind)
                self.assertEqual(getattr(caught.exception, field), value)

    def test_unlike_has_no_field(self):
        with self.assertRaises(errors.BeatError) as caught:
            raise errors.Unlike()
        self.assertEqual(vars(caught.exception), {})

    def test_a_field_is_each_errors_own(self):
        one = errors.BadNet(1)
        other = errors.BadNet(2)
        self.assertEqual((one.at, other.at), (1, 2))

    def test_ring_does_not_follow_the_list_handed_in(self):
        ring = [0, 1]
        error = errors.Stuck(ring)
        ring.append(2)
        self.assertEqual(error.ring, [0, 1])
        error.ring.append(5)
        self.assertEqual(ring, [0, 1, 2])


if __name__ == "__main__":
    unittest.main()
