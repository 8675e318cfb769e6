import unittest
from random import Random

from drawn import as_fraction, draw_puts, drawn_nets, drawn_tables, names
from ringbeat.again import comes_again
from ringbeat.almanac import almanac
from ringbeat.desk import Desk
from ringbeat.errors import BadName, BadNet, BeatError, Loose, NoFit, NoRow, Stuck, TooMany
from ringbeat.given import give_up
from ringbeat.late import fate, late
from ringbeat.papers import holds, least_round, rate
from ringbeat.ratios import ratio
from ringbeat.runs import run
from ringbeat.spare import spare
from ringbeat.texts import fraction_word, read, shown

LOOP = ["goings a b", "ride a b 4", "back b a 4 1"]
PLANNED = LOOP + ["plan 10 0 5"]


def desk_told(rows):
    desk = Desk()
    for row in rows:
        answer = desk.say(row)
        if answer != "ok":
            raise AssertionError((row, answer))
    return desk


def kept_by(desk):
    return {name: list(value) if isinstance(value, list) else value for name, value in vars(desk).items()}


def fraction_of(word):
    top, stroke, bottom = word.partition("/")
    return ratio(int(top), int(bottom or "1"))


class Saying(unittest.TestCase):
    def check_refused(self, desk, row, kind, field=None, value=None):
        """Refused so, with nothing changed that the desk keeps."""
        before = kept_by(desk)
        with self.assertRaises(BeatError, msg=repr(row)) as caught:
            desk.say(row)
        self.assertIs(type(caught.exception), kind, repr(row))
        if field is not None:
            self.assertEqual(getattr(caught.exception, field), value, repr(row))
        self.assertEqual(kept_by(desk), before, repr(row))

    def check_no_row(self, desk, row, at):
        self.check_refused(desk, row, NoRow, "at", at)

    def check_answers(self, desk, pairs):
        for row, answer in pairs:
            self.assertEqual(desk.say(row), answer, row)


class Told(Saying):
    def test_goings_and_arrows(self):
        desk = desk_told(["goings a b c", "ride a b 5", "wait b a 3 2", "back c a 7 1", "wait c c 0 4"])
        self.assertEqual(desk.say("show"), "goings a b c\nride a b 5\nwait b a 3 2\nback c a 7 1\nwait c c 0 4")

    def test_lines(self):
        desk = desk_told(["goings a b c", "line 2 a 5 b 3 c 9", "line 1 a 4"])
        self.assertEqual(desk.say("show"), "goings a b c\nride a b 5\nride b c 3\nback c a 9 2\nback a a 4 1")

    def test_goings_anew(self):
        desk = desk_told(PLANNED + ["put a 0 3"])
        self.check_answers(desk, [("late 1", "round a b\n00000 3 2"), ("goings x y", "ok"), ("show", "goings x y")])
        self.check_no_row(desk, "late 1", 8)
        self.check_answers(desk, [("ride x y 4", "ok"), ("back y x 4 1", "ok"), ("plan 10 0 5", "ok")])
        self.check_answers(desk, [("late 1", "round x y\n00000 0 0")])

    def test_goings_anew_of_the_same_names(self):
        desk = desk_told(PLANNED + ["put a 0 3", "goings a b", "plan 0 0 0"])
        self.check_answers(desk, [("show", "goings a b"), ("late 1", "round a b\n00000 0 0")])

    def test_cut(self):
        desk = desk_told(["goings a b", "ride a b 1", "ride a b 2", "ride a b 3", "back b a 4 1"])
        self.check_answers(desk, [("cut 1", "ok"), ("show", "goings a b\nride a b 1\nride a b 3\nback b a 4 1")])
        self.check_answers(desk, [("cut 2", "ok"), ("cut 0", "ok"), ("show", "goings a b\nride a b 3")])
        self.check_answers(desk, [("cut 0", "ok"), ("show", "goings a b")])
        self.check_no_row(desk, "cut 0", 12)

    def test_change(self):
        desk = desk_told(["goings a b", "ride a b 1", "wait a b 2 3", "back b a 4 2", "wait b b 0 1"])
        for row in ("change 0 10", "change 1 1000000000", "change 2 0", "change 3 7"):
            self.check_answers(desk, [(row, "ok")])
        self.assertEqual(desk.say("show"), "goings a b\nride a b 10\nwait a b 1000000000 3\nback b a 0 2\nwait b b 7 1")

    def test_a_changed_arrow_leaves_what_was_shown(self):
        desk = desk_told(LOOP)
        before = desk.net
        desk.say("change 0 9")
        self.assertEqual(shown(before), "goings a b\nride a b 4\nback b a 4 1")

    def test_plan_anew(self):
        desk = desk_told(PLANNED + ["put a 0 3"])
        self.check_answers(desk, [("late 1", "round a b\n00000 3 2"), ("plan 10 0 6", "ok")])
        self.check_answers(desk, [("late 1", "round a b\n00000 3 1")])

    def test_puts_ahead_of_a_plan(self):
        desk = desk_told(["goings a b", "put a 0 3"] + LOOP[1:] + ["put b 1 7", "plan 10 0 5", "put b 0 9"])
        self.assertEqual(desk.say("late 2"), "round a b\n00000 3 9\n00001 8 7")

    def test_several_puts_for_one_going_and_round(self):
        desk = desk_told(PLANNED + ["put a 0 3", "put a 0 5", "put a 0 4"])
        self.assertEqual(desk.say("late 1"), "round a b\n00000 5 4")

    def test_what_lets_the_plan_go(self):
        asks = ("late 1", "fate 9", "spare a b", "give a 0")
        for row in (
            "ride a b 1", "wait a b 0 0", "back a a 0 1", "line 1 a 0",
            "cut 0", "cut 1", "change 0 4", "change 1 1",
        ):
            desk = desk_told(PLANNED + ["put a 0 3", row])
            for ask in asks:
                self.check_no_row(desk, ask, 6)
            desk.say("plan 10 0 5")
            self.assertEqual(desk.say("late 1").split("\n")[1].split(" ")[1], "3", row)

    def test_what_leaves_the_plan(self):
        desk = desk_told(PLANNED + ["put a 0 3"])
        for row in (
            "put b 1 0", "show", "run 3", "least", "rate a",
            "again 9", "late 0", "fate 9", "spare a b", "give b 9",
        ):
            desk.say(row)
            self.assertEqual(desk.say("late 1"), "round a b\n00000 3 2", row)


class Asked(Saying):
    def test_show(self):
        self.assertEqual(desk_told(["goings a"]).say("show"), "goings a")

    def test_run(self):
        desk = desk_told(["goings a b", "ride a b 5", "back b a 2 1"])
        self.check_answers(desk, [("run 0", "round a b"), ("run 2", "round a  b\n00000 2  7\n00001 9 14")])
        self.assertEqual(desk.say("run 400").split("\n")[-1], "00399 2795 2800")
        self.assertEqual(desk_told(["goings a bc"]).say("run 1"), "round a bc\n00000 -  -")

    def test_run_leaves_puts_and_plan_aside(self):
        desk = desk_told(PLANNED + ["put a 0 3"])
        self.assertEqual(desk.say("run 1"), "round a b\n00000 4 8")

    def test_least(self):
        self.assertEqual(desk_told(["goings a b", "ride a b 4"]).say("least"), "none")
        desk = desk_told(["goings a", "back a a 7 2"])
        self.assertRegex(desk.say("least"), r"\A7/2 ring 0 times -?[0-9]+(/[0-9]+)?\Z")
        self.assertRegex(desk_told(["goings a", "back a a 0 1"]).say("least"), r"\A0 ring 0 times \S+\Z")

    def test_rate(self):
        desk = desk_told(["goings a b c d", "back a a 7 2", "back b b 4 1", "ride b c 1", "ride a c 1"])
        pairs = [("rate a", "7/2"), ("rate b", "4"), ("rate c", "4"), ("rate d", "none")]
        self.check_answers(desk, pairs)

    def test_again(self):
        desk = desk_told(["goings a b", "back a a 3 1", "back b b 2 1", "back a b 0 1"])
        self.check_answers(desk, [("again 200", "1 2 3 3"), ("again 4", "1 2 3 3"), ("again 3", "none")])

    def test_late_and_fate(self):
        desk = desk_told(PLANNED + ["put a 0 3"])
        self.check_answers(desk, [("late 0", "round a b"), ("late 3", "round a b\n00000 3 2\n00001 1 0\n00002 0 0")])
        self.check_answers(desk, [("fate 1", "none"), ("fate 2", "none"), ("fate 3", "died 2"), ("fate 400", "died 2")])
        self.check_answers(desk, [("plan 8 0 4", "ok"), ("fate 1", "ever a 0"), ("fate 400", "ever a 0")])
        desk = desk_told(LOOP + ["plan 8 0 4", "put b 12 1"])
        self.check_answers(desk, [("fate 400", "ever b 12"), ("fate 12", "none"), ("late 1", "round a b\n00000 0 0")])

    def test_spare(self):
        desk = desk_told(["goings a b c", "ride a b 4", "back b a 4 1", "plan 10 0 5 0"])
        pairs = [("spare a b", "1"), ("spare b a", "1"), ("spare a a", "0"), ("spare a c", "none"), ("spare c c", "0")]
        self.check_answers(desk, pairs)

    def test_give(self):
        rows = [
            "goings a b c", "wait a b 0 0", "ride a c 0", "wait a b 0 1",
            "wait a b 0 0", "plan 0 0 0 0", "put a 0 3",
        ]
        desk = desk_told(rows)
        pairs = [("give b 0", "0 3"), ("give b 1", "2"), ("give b 2", ""), ("give c 0", "none"), ("give b 60", "")]
        self.check_answers(desk, pairs)

    def test_names_like_words_of_rows(self):
        desk = desk_told(["goings show goings put", "ride show goings 3", "put put 0 5", "plan 9 0 3 0"])
        self.check_answers(desk, [("spare show goings", "0"), ("show", "goings show goings put\nride show goings 3")])
        self.assertEqual(desk.say("late 1"), "round show goings put\n00000    0      0   5")


class Refused(Saying):
    def test_no_net_at_first(self):
        rows = ["show", "run 1", "least", "rate a", "again 5", "late 1", "fate 5", "spare a b", "give a 0", "cut 0"]
        rows += [
            "change 0 5", "plan 5", "plan 5 0", "put a 0 1",
            "ride a b 5", "wait a b 5 0", "back a b 5 1", "line 1 a 5",
        ]
        for row in rows:
            self.check_no_row(Desk(), row, 0)

    def test_no_plan(self):
        desk = desk_told(LOOP)
        for row in ("late 1", "fate 5", "spare a b", "give a 0", "spare x y", "give x 0"):
            self.check_no_row(desk, row, 3)

    def test_what_is_no_text(self):
        for thing in (None, 5, True, ["show"], b"show", ("show",)):
            self.check_no_row(Desk(), thing, 0)
            self.check_no_row(desk_told(LOOP), thing, 3)

    def test_rows_of_no_form(self):
        rows = [
            "", " ", "x", "Show", "show ", " show", "show a",
            "run", "run a", "run -1", "run 05", "run 1 1", "run  1",
        ]
        rows += ["least 1", "least ", "rate", "rate a b", "again", "again x", "again 5 5", "late", "late x", "late 1 1"]
        rows += [
            "fate", "fate x", "fate 1 1", "spare a", "spare a b a",
            "give a", "give", "give a x", "give a 0 0", "cut",
        ]
        rows += [
            "cut x", "cut 0 0", "change 0", "change 0 x", "change 0 1 1",
            "change x 1", "plan", "plan x", "put a 0",
        ]
        rows += [
            "put a 0 1 1", "put a x 1", "put a 0 x", "put a 0 01",
            "put a 00 1", "ride a b", "ride a b x", "wait a b 1",
        ]
        rows += ["back a b 1", "line 1 a", "line a 1", "line 1 a 05", "show\n", "run 1\n", "show\nshow", "ok", "none"]
        rows += [
            "ride a b 1111111111111111", "cut 0000", "goingsa", "Goings a",
            " goings a", "plan 10 0 5 ", "plan  10 0 5",
        ]
        for row in rows:
            self.check_no_row(desk_told(PLANNED), row, 4)

    def test_a_plan_without_a_time_for_each_going(self):
        desk = desk_told(LOOP)
        for row in (
            "plan", "plan 10", "plan 10 0", "plan 10 0 5 5",
            "plan 10 0 x", "plan x 0 5", "plan 10 0 -5", "plan 10 0 ",
        ):
            self.check_no_row(desk, row, 3)

    def test_arrows_that_the_net_does_not_have(self):
        desk = desk_told(LOOP)
        for row in ("cut 2", "cut 3", "cut 999999999999999", "change 2 1", "change 999999999999999 1", "cut -1"):
            self.check_no_row(desk, row, 3)
        for row in ("change 1 4", "cut 1", "cut 0"):
            self.assertEqual(desk.say(row), "ok")

    def test_bounds(self):
        kept = [
            "run 400", "late 400", "fate 400", "fate 1",
            "again 200", "again 1", "put a 400 1", "put a 0 1000000000000",
        ]
        kept += [
            "give a 60", "run 0", "late 0", "put b 0 0",
            "give a 0", "plan 1000000000000 0 5", "plan 10 999999999996 1000000000000",
        ]
        for row in kept:
            desk_told(LOOP[:2] + ["back a a 4 1", "back b b 4 1", "plan 10 0 5"]).say(row)
        passed = [
            "run 401", "late 401", "fate 401", "fate 0",
            "again 201", "again 0", "put a 401 1", "put a 0 1000000000001",
        ]
        passed += ["give a 61", "plan 1000000000001 0 5", "plan 10 0 1000000000001", "plan 10 1000000000001 5"]
        passed += [row.rpartition(" ")[0] + " 999999999999999" for row in kept if not row.startswith("plan")]
        for row in passed:
            self.check_no_row(desk_told(PLANNED), row, 4)

    def test_names_that_none_is(self):
        desk = desk_told(PLANNED)
        for row, name in (
            ("ride x b 5", "x"), ("ride a x 5", "x"), ("wait x y 5 0", "x"), ("back a A 5 1", "A"),
            ("line 1 a 4 y 5 x 6", "y"), ("rate x", "x"), ("put x 0 1", "x"), ("spare x y", "x"), ("spare a y", "y"),
            ("give x 0", "x"), ("rate ", ""), ("spare  b", ""), ("spare a ", ""), ("ride  b 5", ""), ("put  0 1", ""),
            ("give  0", ""), ("line 1  5", ""), ("rate a\n", "a\n"), ("spare b 1", "1"), ("rate 0", "0"),
        ):
            self.check_refused(desk, row, BadName, "name", name)

    def test_no_row_comes_ahead_of_names(self):
        desk = desk_told(PLANNED)
        for row in (
            "put x 401 1", "put x 0 1000000000001", "give x 61", "ride x y z",
            "wait x b 05 1", "line 1 x 4 b", "rate x y",
        ):
            self.check_no_row(desk, row, 4)

    def test_names_come_ahead_of_the_stages(self):
        desk = desk_told(LOOP)
        self.check_refused(desk, "ride a x 9999999999", BadName, "name", "x")
        self.check_refused(desk, "line 0 a 1 x 1", BadName, "name", "x")
        desk = desk_told(["goings a b"] + ["wait a b 0 0"] * 9 + ["plan 0 0 0"])
        self.check_refused(desk, "give x 0", BadName, "name", "x")
        self.check_refused(desk, "give a 0", TooMany, "many", 9)
        self.check_no_row(desk, "give a 61", 11)

    def test_goings_that_make_no_net(self):
        desk = desk_told(PLANNED)
        for row in (
            "goings", "goings ", "goings a a", "goings A",
            "goings a  b", "goings a ", "goings abcdefghi", "goings a\nb",
        ):
            self.check_refused(desk, row, BadNet, "at", None)
            self.check_refused(Desk(), row, BadNet, "at", None)
        self.check_refused(desk, "goings " + " ".join(names(41)), BadNet, "at", None)
        self.assertEqual(desk.say("late 1"), "round a b\n00000 0 0")
        self.assertEqual(desk.say("goings " + " ".join(names(40))), "ok")

    def test_arrows_that_make_no_net(self):
        desk = desk_told(PLANNED)
        self.check_refused(desk, "ride a b 1000000001", BadNet, "at", 2)
        self.check_refused(desk, "back a b 1 0", BadNet, "at", 2)
        self.check_refused(desk, "wait a b 1 5", BadNet, "at", 2)
        self.check_refused(desk, "line 0 a 1 b 1", BadNet, "at", 3)
        self.check_refused(desk, "change 1 1000000001", BadNet, "at", 1)
        self.check_refused(desk, "change 0 999999999999999", BadNet, "at", 0)
        self.check_refused(desk, "wait b a 1 0", Stuck)
        self.check_refused(desk, "ride a a 1", Stuck, "ring", [2])
        self.check_refused(desk, "line 1 b 1 a 1", Stuck)
        self.assertEqual(desk.say("show"), "goings a b\nride a b 4\nback b a 4 1")
        self.assertEqual(desk.say("late 1"), "round a b\n00000 0 0")

    def test_too_many_arrows(self):
        desk = desk_told(["goings a"] + ["back a a 1 1"] * 120)
        self.check_refused(desk, "back a a 1 1", BadNet, "at", None)
        self.check_refused(desk, "line 1 a 1", BadNet, "at", None)
        self.check_answers(desk, [("cut 119", "ok"), ("back a a 2 1", "ok"), ("rate a", "2")])

    def test_a_plan_that_does_not_fit(self):
        desk = desk_told(PLANNED + ["put a 0 3"])
        self.check_refused(desk, "plan 10 0 3", NoFit, "arrow", 0)
        self.check_refused(desk, "plan 7 0 4", NoFit, "arrow", 1)
        self.assertEqual(desk.say("late 1"), "round a b\n00000 3 2")

    def test_loose(self):
        self.check_refused(desk_told(["goings a b", "back a a 1 1"]), "again 9", Loose, "going", 1)
        self.check_refused(desk_told(["goings a b"]), "again 9", Loose, "going", 0)
        self.check_no_row(desk_told(["goings a b"]), "again 0", 1)

    def test_what_is_refused_is_not_counted(self):
        desk = Desk()
        self.check_no_row(desk, "x", 0)
        self.check_refused(desk, "goings", BadNet)
        self.check_no_row(desk, "x", 0)
        desk.say("goings a b")
        self.check_no_row(desk, "x", 1)
        refused = {"ride a x 5": BadName, "ride a a 5": Stuck, "again 5": Loose, "ride a b 9999999999": BadNet}
        for row, kind in refused.items():
            self.check_refused(desk, row, kind)
            self.check_no_row(desk, "late 1", 1)
        desk.say("show")
        desk.say("run 0")
        self.check_no_row(desk, None, 3)


class Desks(Saying):
    def test_two_at_once(self):
        one, other = Desk(), Desk()
        one.say("goings a b")
        self.check_no_row(other, "show", 0)
        other.say("goings a b")
        for row in LOOP[1:] + ["plan 10 0 5", "put a 0 3"]:
            one.say(row)
        other.say("plan 0 0 0")
        self.assertEqual(other.say("late 1"), "round a b\n00000 0 0")
        self.assertEqual(one.say("late 1"), "round a b\n00000 3 2")
        self.assertEqual(other.say("show"), "goings a b")
        self.check_no_row(one, "x", 6)
        self.check_no_row(other, "x", 4)

    def test_a_desk_behind_another_begins_anew(self):
        desk_told(PLANNED + ["put a 0 3"])
        desk = desk_told(PLANNED)
        self.assertEqual(desk.say("late 1"), "round a b\n00000 0 0")


class Drawn(Saying):
    def check_least(self, net, answer):
        paper = least_round(net)
        if paper is None:
            self.assertEqual(answer, "none")
            return
        words = answer.split(" ")
        cut = words.index("times")
        self.assertEqual(words[1], "ring")
        ring = [int(word) for word in words[2:cut]]
        told = (fraction_of(words[0]), ring, [fraction_of(word) for word in words[cut + 1:]])
        self.assertTrue(holds(net, told))
        self.assertEqual(as_fraction(told[0]), as_fraction(paper[0]))

    def test_nets(self):
        for seed, net in drawn_nets(60):
            desk = desk_told(shown(net).split("\n"))
            self.assertEqual(desk.say("show"), shown(net))
            self.assertEqual(desk.say("run 12"), almanac(net.names, run(net, 12), 0))
            self.check_least(net, desk.say("least"))
            for going, name in enumerate(net.names):
                paper = rate(net, going)
                self.assertEqual(desk.say("rate " + name), fraction_word(paper[0]) if paper else "none")
            if all(net.into(going) for going in range(len(net.names))):
                told = comes_again(net, 150)
                asked = " ".join(str(part) for part in [told[0], told[1]] + told[2]) if told else "none"
                self.assertEqual(desk.say("again 150"), asked)
            else:
                self.check_refused(desk, "again 150", Loose)

    def test_tables(self):
        for seed, table in drawn_tables(60):
            puts = draw_puts(seed, table, 6)
            told = table.net.names
            rows = shown(table.net).split("\n") + [f"put {told[going]} {at} {amount}" for going, at, amount in puts]
            desk = desk_told(rows + ["plan " + " ".join(str(part) for part in [table.beat] + table.times)])
            self.assertEqual(desk.say("late 15"), almanac(told, late(table, 15, puts), 0))
            end = fate(table, puts, 20)
            asked = "none" if end is None else f"died {end[1]}" if end[0] == "died" else f"ever {told[end[1]]} {end[2]}"
            self.assertEqual(desk.say("fate 20"), asked)
            chance = Random(seed)
            one, other = chance.randrange(len(told)), chance.randrange(len(told))
            amount = spare(table, one, other)
            self.assertEqual(desk.say(f"spare {told[one]} {told[other]}"), str(amount[0]) if amount else "none")
            given = give_up(table, puts, one, 5)
            asked = "none" if given is None else " ".join(str(number) for number in given)
            self.assertEqual(desk.say(f"give {told[one]} 5"), asked)

    def test_changes_by_hand(self):
        for seed, net in drawn_nets(40, most_arrows=8):
            chance = Random(seed)
            desk = desk_told(shown(net).split("\n"))
            rows = shown(net).split("\n")
            for step in range(6):
                number = chance.randrange(len(rows))
                if len(rows) > 1 and number > 0:
                    if chance.random() < 0.5:
                        self.assertEqual(desk.say(f"cut {number - 1}"), "ok")
                        rows.pop(number)
                    else:
                        time = chance.randint(0, 99)
                        self.assertEqual(desk.say(f"change {number - 1} {time}"), "ok")
                        words = rows[number].split(" ")
                        rows[number] = " ".join(words[:3] + [str(time)] + words[4:])
                self.assertEqual(desk.say("show"), "\n".join(rows))
                self.assertEqual(shown(read("\n".join(rows))), "\n".join(rows))


if __name__ == "__main__":
    unittest.main()
