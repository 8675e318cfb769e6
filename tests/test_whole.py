"""The promise over the whole program, point 0.3, on drawn nets, by the modules together."""

import unittest
from fractions import Fraction
from random import Random

from drawn import (
    all_rings, as_fraction, as_pair, draw_puts, draw_was, drawn_nets, drawn_tables, great_net, parts, slow_mean,
    tight_rings,
)
from ringbeat.again import comes_again, goes_on
from ringbeat.alike import parted, steps
from ringbeat.almanac import almanac
from ringbeat.arrows import Back
from ringbeat.desk import Desk
from ringbeat.given import give_up
from ringbeat.late import fate, late, tight_ring
from ringbeat.nets import Net, leads_to
from ringbeat.papers import holds, holds_at, least_round, rate
from ringbeat.reasons import reason
from ringbeat.rounds import fits, is_ring, mean, times_or_ring
from ringbeat.runs import run
from ringbeat.spare import spare
from ringbeat.tables import Table
from ringbeat.texts import read, shown


def forged(chance, net, paper):
    """The paper with one thing in it altered."""
    pace, ring, times = paper[0], list(paper[1]), list(paper[2])
    part = chance.randrange(4)
    if part == 0:
        pace = as_pair(as_fraction(pace) + Fraction(chance.choice((-1, 1)), chance.randint(1, 60)))
    elif part == 1:
        ring[chance.randrange(len(ring))] = chance.randrange(-1, len(net.arrows) + 1)
    elif part == 2:
        place = chance.randrange(len(times))
        times[place] = as_pair(as_fraction(times[place]) + Fraction(chance.choice((-1, 1)), chance.randint(1, 9)))
    else:
        ring = ring[1:] + ring[:1]
    return (pace, ring, times)


class RoundsAndRings(unittest.TestCase):
    def test_times_or_a_ring_never_both(self):
        for seed, net in drawn_nets(80, most_goings=5, most_arrows=8):
            means = [slow_mean(net, ring) for ring in all_rings(net)]
            chance = Random(seed)
            for pace in means + [Fraction(chance.randint(-20, 60), chance.randint(1, 7)) for count in range(4)]:
                told = times_or_ring(net, as_pair(pace))
                greater = [value for value in means if value > pace]
                self.assertEqual(told[0], "ring" if greater else "times")
                if greater:
                    self.assertGreater(as_fraction(mean(net, told[1])), pace)
                else:
                    self.assertTrue(fits(net, as_pair(pace), told[1]))

    def test_whatever_paper_is_let_by_is_right(self):
        let_by = 0
        for seed, net in drawn_nets(120, most_goings=4, most_arrows=8):
            paper = least_round(net)
            rings = all_rings(net)
            self.assertEqual(paper is None, rings == [])
            if paper is None:
                continue
            chance = Random(seed)
            best = max(slow_mean(net, ring) for ring in rings)
            for count in range(20):
                other = forged(chance, net, paper)
                if holds(net, other):
                    let_by += 1
                    self.assertTrue(is_ring(net, other[1]))
                    self.assertEqual(as_fraction(other[0]), best)
        self.assertGreater(let_by, 200)

    def test_the_least_round_is_the_greatest_rate(self):
        for net in [net for seed, net in drawn_nets(60)] + [great_net(seed) for seed in range(2)]:
            papers = [rate(net, going) for going in range(len(net.names))]
            for going, paper in enumerate(papers):
                if paper is not None:
                    self.assertTrue(holds_at(net, going, paper))
            rates = [as_fraction(paper[0]) for paper in papers if paper is not None]
            paper = least_round(net)
            self.assertEqual(max(rates, default=None), None if paper is None else as_fraction(paper[0]))


class ComingAgain(unittest.TestCase):
    def check(self, net, was):
        rows = run(net, 400, was)
        told = comes_again(net, 200, was)
        self.assertIsNotNone(told)
        count, first, lengths = told
        self.assertTrue(goes_on(net, rows, told))
        for number in range(first, 400 - count):
            self.assertEqual([then - now for now, then in zip(rows[number], rows[number + count])], lengths)
        for going, length in enumerate(lengths):
            self.assertEqual(Fraction(length), count * as_fraction(rate(net, going)[0]))
        if first > 0:
            grown = [then - now for now, then in zip(rows[first - 1], rows[first - 1 + count])]
            self.assertNotEqual(grown, lengths)
            self.assertFalse(goes_on(net, rows, (count, first - 1, lengths)))
            self.assertFalse(goes_on(net, rows, (count, first - 1, grown)))

    def test_drawn(self):
        for seed, net in drawn_nets(80, most_goings=5, most_arrows=10, tied=True, most_behind=2):
            self.check(net, None)

    def test_great_nets(self):
        for seed in range(4):
            net = great_net(seed)
            self.check(net, draw_was(seed, net, nevers=False, most=10 ** 9))


class AgainstAPlan(unittest.TestCase):
    def test_carried_for_ever_or_dead(self):
        ends = {"ever": 0, "died": 0}
        for seed, table in drawn_tables(150):
            puts = draw_puts(seed, table, 5)
            rows = late(table, 400, puts)
            keepers = {table.net.arrows[number].start for ring in tight_rings(table) for number in ring}
            told_keepers = [going for going in range(len(table.times)) if tight_ring(table, going) is not None]
            self.assertEqual(told_keepers, sorted(keepers))
            met = any(row[going] > 0 for row in rows[:200] for going in keepers)
            self.assertEqual(met, any(any(row) for row in rows[300:]))
            told = fate(table, puts, 400)
            self.assertEqual(told[0], "ever" if met else "died")
            ends[told[0]] += 1
        self.assertGreater(min(ends.values()), 30)

    def test_what_may_be_spared(self):
        for seed, table in drawn_tables(60):
            for one in range(len(table.times)):
                for other in range(len(table.times)):
                    told = spare(table, one, other)
                    self.assertEqual(told is None, one not in leads_to(table.net, other))
                    if told is not None:
                        for amount in (told[0], told[0] + 1):
                            rows = late(table, 80, [(one, 1, amount)])
                            self.assertEqual(max(row[other] for row in rows), amount - told[0])

    def test_a_table_made_of_a_paper(self):
        for seed, net in drawn_nets(80):
            paper = least_round(net)
            if paper is not None:
                beat = -(-paper[0][0] // paper[0][1])
                times = [as_fraction(time) for time in times_or_ring(net, (beat, 1))[1]]
                table = Table(net, [int(time - min(times)) for time in times], beat)
                slacks = [table.slack(number) for number in paper[1]]
                behinds = sum(net.arrows[number].behind for number in paper[1])
                self.assertEqual(sum(slacks), (beat - as_fraction(paper[0])) * behinds)
                if paper[0] == (beat, 1):
                    start = net.arrows[paper[1][0]].start
                    told = fate(table, [(start, 3, 1)], 4)
                    self.assertEqual((told[0], told[2]), ("ever", 3))


class NetsAlike(unittest.TestCase):
    def test_the_same_times_just_where_the_steps_are_the_same(self):
        alike = 0
        for seed, net in drawn_nets(120, most_goings=4, most_arrows=6, most_time=2, most_behind=2):
            chance = Random(seed)
            made = [Back(start, goal, time, behind) for (behind, start, goal), time in steps(net).items()]
            if made and seed % 3 == 0:
                made.pop(chance.randrange(len(made)))
            other = Net(net.names, made)
            key = parted(net, other)
            for count in range(6):
                was = draw_was(f"{seed} {count}", net, more=4)
                if key is None:
                    self.assertEqual(run(net, 12, was), run(other, 12, was))
            if key is None:
                alike += 1
            else:
                was = [[None] * len(net.names) for number in range(4)]
                was[key[0] - 1][key[1]] = 0
                self.assertNotEqual(run(net, 1, was), run(other, 1, was))
        self.assertTrue(50 < alike < 110)


class AllTogether(unittest.TestCase):
    def ask_all(self, table, puts):
        net = table.net
        told = [run(net, 9), least_round(net), rate(net, 0), times_or_ring(net, (3, 2)), steps(net), parted(net, net)]
        told += [leads_to(net, 0), net.order(), net.into(0), reason(net, 0, 5), shown(net), parts(read(shown(net)))]
        told += [late(table, 9, puts), fate(table, puts, 9), tight_ring(table, 0), spare(table, 0, len(net.names) - 1)]
        told += [give_up(table, puts, 0, 4), almanac(net.names, late(table, 9, puts), 0)]
        return told

    def test_nothing_is_changed_and_nothing_hangs_on_chance(self):
        for seed, table in drawn_tables(40):
            puts = draw_puts(seed, table, 5)
            kept = (parts(table.net), list(table.net.names), list(table.times), table.beat, list(puts))
            first = self.ask_all(table, puts)
            self.assertEqual(self.ask_all(table, puts), first)
            self.assertEqual((parts(table.net), table.net.names, table.times, table.beat, puts), kept)

    def test_by_the_desk(self):
        for seed, table in drawn_tables(40):
            desk = Desk()
            plan = "plan " + " ".join(str(part) for part in [table.beat] + table.times)
            puts = draw_puts(seed, table, 5)
            told = table.net.names
            rows = shown(table.net).split("\n") + [plan] + [f"put {told[g]} {k} {more}" for g, k, more in puts]
            self.assertEqual([desk.say(row) for row in rows], ["ok"] * len(rows))
            again = read(desk.say("show"))
            self.assertIsNone(parted(again, table.net))
            self.assertEqual(desk.say("run 30"), almanac(told, run(again, 30), 0))
            end = desk.say("fate 400").split(" ")
            lates = [line.split(" ")[1:] for line in desk.say("late 400").split("\n")[1:]]
            dead = all(set(words) <= {"", "0"} for words in lates[300:])
            self.assertEqual(end[0], "died" if dead else "ever")


if __name__ == "__main__":
    unittest.main()
