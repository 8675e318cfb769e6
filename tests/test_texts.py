import unittest

from drawn import draw_net, drawn_nets, great_net, names, parts
from ringbeat.arrows import Back, Ride, Wait
from ringbeat.errors import BadName, BadNet, NoRow, Stuck
from ringbeat.nets import Net
from ringbeat.texts import fraction_word, read, shown

SIXTY = 10 ** 60 - 1


class FractionWord(unittest.TestCase):
    def test_told(self):
        for fraction, word in (
            ((0, 1), "0"),
            ((5, 1), "5"),
            ((-5, 1), "-5"),
            ((3, 2), "3/2"),
            ((-3, 2), "-3/2"),
            ((1, 10), "1/10"),
            ((-1, 3), "-1/3"),
            ((SIXTY, 1), "9" * 60),
            ((-SIXTY, SIXTY - 1), "-" + "9" * 60 + "/" + "9" * 59 + "8"),
            ((1, SIXTY), "1/" + "9" * 60),
        ):
            with self.subTest(fraction=fraction):
                self.assertEqual(fraction_word(fraction), word)


class Shown(unittest.TestCase):
    def test_told(self):
        self.assertEqual(shown(Net(["a"], [])), "goings a")
        net = Net(["a", "b2"], [Ride(0, 1, 5), Wait(1, 0, 3, 2), Back(1, 0, 10 ** 9), Wait(0, 0, 0, 1)])
        self.assertEqual(shown(net), "goings a b2\nride a b2 5\nwait b2 a 3 2\nback b2 a 1000000000 1\nwait a a 0 1")
        self.assertEqual(shown(Net(["a", "b"], [Wait(0, 1, 3)])), "goings a b\nwait a b 3 0")

    def test_what_is_shown_is_read_to_the_same(self):
        nets = [net for seed, net in drawn_nets(60)] + [great_net(seed) for seed in range(3)] + [Net(names(40), [])]
        for net in nets:
            text = shown(net)
            again = read(text)
            self.assertEqual(again.names, net.names)
            self.assertEqual(parts(again), parts(net))
            self.assertEqual(shown(again), text)

    def test_names_like_words_of_rows(self):
        net = Net(["goings", "ride", "line", "back"], [Ride(0, 1, 5), Back(2, 3, 1)])
        self.assertEqual(parts(read(shown(net))), parts(net))


class Read(unittest.TestCase):
    def check(self, text, told_names, told_parts):
        net = read(text)
        self.assertIsInstance(net, Net)
        self.assertEqual(net.names, told_names)
        self.assertEqual(parts(net), told_parts)

    def check_no_row(self, text, at):
        with self.assertRaises(NoRow, msg=repr(text)) as caught:
            read(text)
        self.assertEqual(caught.exception.at, at, repr(text))

    def check_bad_name(self, text, name):
        with self.assertRaises(BadName, msg=repr(text)) as caught:
            read(text)
        self.assertEqual(caught.exception.name, name, repr(text))

    def check_bad_net(self, text, at):
        with self.assertRaises(BadNet, msg=repr(text)) as caught:
            read(text)
        self.assertEqual(caught.exception.at, at, repr(text))

    def test_each_kind_of_arrow(self):
        self.check("goings a", ["a"], [])
        self.check("goings a b\nride a b 5", ["a", "b"], [(Ride, 0, 1, 5, 0)])
        self.check("goings a b\nwait b a 3 0\nwait a a 0 4", ["a", "b"], [(Wait, 1, 0, 3, 0), (Wait, 0, 0, 0, 4)])
        self.check("goings a b\nback b a 7 1", ["a", "b"], [(Back, 1, 0, 7, 1)])

    def test_lines(self):
        letters = ["a", "b", "c"]
        rides = [(Ride, 0, 1, 5, 0), (Ride, 1, 2, 3, 0)]
        self.check("goings a b c\nline 2 a 5 b 3 c 9", letters, rides + [(Back, 2, 0, 9, 2)])
        self.check("goings a b c\nline 1 a 4", letters, [(Back, 0, 0, 4, 1)])
        self.check("goings a b c\nline 4 c 1 a 2", letters, [(Ride, 2, 0, 1, 0), (Back, 0, 2, 2, 4)])
        both = "goings a b c\nwait a b 1 1\nline 1 a 5 b 3\nride a c 2"
        told = [(Wait, 0, 1, 1, 1), (Ride, 0, 1, 5, 0), (Back, 1, 0, 3, 1), (Ride, 0, 2, 2, 0)]
        self.check(both, letters, told)
        self.assertEqual(shown(read(both)), "goings a b c\nwait a b 1 1\nride a b 5\nback b a 3 1\nride a c 2")

    def test_a_line_through_forty_goings(self):
        row = "line 3 " + " ".join(f"{name} 7" for name in names(40))
        net = read("goings " + " ".join(names(40)) + "\n" + row)
        self.assertEqual(parts(net), [(Ride, k, k + 1, 7, 0) for k in range(39)] + [(Back, 39, 0, 7, 3)])

    def test_a_line_that_comes_to_a_going_twice(self):
        told = [(Ride, 0, 1, 1, 0), (Ride, 1, 2, 2, 0), (Back, 2, 0, 3, 1)]
        self.check("goings a b c\nline 1 a 1 b 2 c 3", ["a", "b", "c"], told)
        with self.assertRaises(Stuck) as caught:
            read("goings a b\nline 1 a 1 b 2 a 3")
        self.assertEqual(sorted(caught.exception.ring), [0, 1])
        with self.assertRaises(Stuck):
            read("goings a\nline 1 a 1 a 2")

    def test_what_is_no_text(self):
        for thing in (None, 5, True, ["goings a"], ("goings a",), b"goings a", {"goings": "a"}):
            self.check_no_row(thing, 0)

    def test_the_first_row(self):
        for text in ("", "\n", " ", "a", "Goings a", " goings a", "goingsa", "goings\ta", "ride a b 5", "line 1 a 4"):
            self.check_no_row(text, 0)
        self.check_no_row("\ngoings a", 0)
        self.check_no_row("x\nride a b", 0)

    def test_a_row_more_than_once(self):
        self.check_no_row("goings a\ngoings a", 1)
        self.check_no_row("goings a\nback a a 1 1\ngoings", 2)

    def test_empty_rows(self):
        self.check_no_row("goings a\n", 1)
        self.check_no_row("goings a\n\nback a a 1 1", 1)
        self.check_no_row("goings a\nback a a 1 1\n", 2)
        self.check_no_row("goings\n", 1)

    def test_wrong_words(self):
        rows = ["x", "rid a b 5", "Ride a b 5", "rides a b 5", "show", "cut 0", "wait", "ride", "back", "line"]
        for row in rows:
            self.check_no_row("goings a b\nride a b 1\n" + row, 2)

    def test_words_too_few_or_too_many(self):
        rows = ["ride a b", "ride a 5", "ride a b 5 0", "ride a b 5 5 5", "wait a b 3", "wait a b 3 0 0", "wait a 3 0"]
        rows += ["back a b 3", "back a b 3 1 1", "back a b", "line 1", "line 1 a", "line 1 a 4 b", "line a 4", "line"]
        for row in rows:
            self.check_no_row("goings a b\n" + row, 1)

    def test_blanks_twice_or_at_an_end(self):
        rows = [
            "ride a b 5 ", " ride a b 5", "ride  a b 5", "ride a  b 5",
            "ride a b  5", "wait a b 3 0 ", " wait a b 3 0",
        ]
        rows += [
            "back a b 3  1", "line 1 a 4 ", " line 1 a 4", "line  1 a 4",
            "line 1  a 4", "line 1 a  4", "ride a b ",
        ]
        rows += ["line 1 a 4  b 3", "line 1 a 4 b ", " ", "  "]
        for row in rows:
            self.check_no_row("goings a b\n" + row, 1)

    def test_wrong_numbers(self):
        wrong = ["", "05", "00", "+5", "-5", "-0", "5.", "1e3", "x", "5x", "1_0", "0x1", "1/2", "1" * 16, "0" * 15]
        for word in wrong:
            self.check_no_row("goings a b\nride a b " + word, 1)
            self.check_no_row("goings a b\nwait a b " + word + " 0", 1)
            self.check_no_row("goings a b\nwait a b 5 " + word, 1)
            self.check_no_row("goings a b\nback a b " + word + " 1", 1)
            self.check_no_row("goings a b\nback a b 5 " + word, 1)
            self.check_no_row("goings a b\nline " + word + " a 5", 1)
            self.check_no_row("goings a b\nline 1 a " + word, 1)
            self.check_no_row("goings a b\nline 1 a " + word + " b 3", 1)
            self.check_no_row("goings a b\nline 1 a 3 b " + word, 1)

    def test_numbers_of_fifteen_figures_are_numbers(self):
        self.check_bad_net("goings a b\nride a b " + "9" * 15, 0)
        self.check_bad_net("goings a b\nback a b 5 " + "1" * 15, 0)
        self.check_bad_net("goings a b\nline " + "9" * 15 + " a 5", 0)
        told = [(Ride, 0, 1, 0, 0), (Ride, 0, 1, 10 ** 9, 0)]
        self.check("goings a b\nride a b 0\nride a b 1000000000", ["a", "b"], told)

    def test_names_that_none_is(self):
        self.check_bad_name("goings a b\nride x b 5", "x")
        self.check_bad_name("goings a b\nride a x 5", "x")
        self.check_bad_name("goings a b\nwait x y 5 0", "x")
        self.check_bad_name("goings a b\nback a A 5 1", "A")
        self.check_bad_name("goings a b\nline 1 a 4 y 5 x 6", "y")
        self.check_bad_name("goings a b\nline 1 x 4", "x")
        self.check_bad_name("goings\nride a b 5", "a")
        self.check_bad_name("goings a b\nride 0 1 5", "0")

    def test_a_word_without_signs_as_a_name(self):
        self.check_bad_name("goings a b\nride  b 5", "")
        self.check_bad_name("goings a b\nwait a  5 0", "")
        self.check_bad_name("goings a b\nline 1  5", "")
        self.check_bad_net("goings a \nride a  5", None)
        self.check_bad_net("goings \nride   5", None)
        self.check_bad_name("goings \nride  a 5", "a")

    def test_the_first_wrong_row(self):
        self.check_bad_name("goings a b\nride a x 5\nride a b", "x")
        self.check_no_row("goings a b\nride a b\nride a x 5", 1)
        self.check_bad_name("goings a b\nride a b 1\nride x b 5\nride y b 5", "x")

    def test_the_form_of_a_row_comes_ahead_of_its_names(self):
        self.check_no_row("goings a b\nride x y z", 1)
        self.check_no_row("goings a b\nwait x b 05 1", 1)
        self.check_no_row("goings a b\nline 1 x 4 b", 1)

    def test_rows_come_ahead_of_the_net(self):
        self.check_no_row("goings A\nx", 1)
        self.check_no_row("goings a a\nride a a 1\nx", 2)
        self.check_bad_name("goings A\nride a a 5", "a")
        self.check_bad_name("goings a b\nride a b 9999999999\nride a x 5", "x")
        self.check_no_row("goings a\nride a a 5\nride a", 2)

    def test_no_net(self):
        self.check_bad_net("goings", None)
        self.check_bad_net("goings ", None)
        self.check_bad_net("goings a  b", None)
        self.check_bad_net("goings a a", None)
        self.check_bad_net("goings a a\nride a a 5", None)
        self.check_bad_net("goings A\nride A A 5", None)
        self.check_bad_net("goings 1a", None)
        self.check_bad_net("goings abcdefghi", None)
        self.check_bad_net("goings " + " ".join(names(41)), None)
        self.check_bad_net("goings a b\nride a b 1\nride a b 1000000001\nback a b 1 0", 1)
        self.check_bad_net("goings a b\nride a b 1\nback a b 1 0", 1)
        self.check_bad_net("goings a b\nline 0 a 1 b 1", 1)
        self.check_bad_net("goings a b\nline 5 a 1", 0)
        self.check_bad_net("goings a b\nwait a b 1 5", 0)
        self.check_bad_net("goings a" + "\nback a a 1 1" * 121, None)
        self.assertEqual(len(read("goings a" + "\nback a a 1 1" * 120).arrows), 120)

    def test_stuck(self):
        with self.assertRaises(Stuck) as caught:
            read("goings a b\nback a a 1 1\nride a b 1\nwait b a 1 0")
        self.assertEqual(sorted(caught.exception.ring), [1, 2])

    def test_each_reading_is_a_net_of_its_own(self):
        one = read("goings a\nback a a 1 1")
        other = read("goings a\nback a a 1 1")
        one.names.append("z")
        one.arrows.clear()
        self.assertEqual((other.names, len(other.arrows)), (["a"], 1))

    def test_drawn_texts_with_a_wrong_row(self):
        for seed in range(40):
            rows = shown(draw_net(seed, 5, 8)).split("\n")
            for at in range(1, len(rows)):
                broken = rows[:at] + [rows[at] + " 1"] + rows[at + 1:]
                self.check_no_row("\n".join(broken), at)


if __name__ == "__main__":
    unittest.main()
