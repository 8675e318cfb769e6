"""The desk: rows that tell a net, change it by hand, and ask."""

from ringbeat.again import comes_again
from ringbeat.almanac import almanac
from ringbeat.arrows import Back, Ride, Wait
from ringbeat.errors import NoRow
from ringbeat.given import give_up
from ringbeat.late import fate, late
from ringbeat.nets import Net
from ringbeat.papers import least_round, rate
from ringbeat.runs import run
from ringbeat.spare import spare
from ringbeat.tables import Table
from ringbeat.texts import are_numbers, arrows_of_row, fraction_word, has_arrow_form
from ringbeat.texts import is_number, names_in_row, refuse_unknown, shown

# What stands behind a row's first word: None for a name, for a number the least and the most that it may be. Where
# the net has the say over a number, the most is the greatest one that can be written.
FORMS = {
    "cut": ((0, 999999999999999),),
    "change": ((0, 999999999999999), (0, 999999999999999)),
    "put": (None, (0, 400), (0, 1000000000000)),
    "show": (),
    "run": ((0, 400),),
    "least": (),
    "rate": (None,),
    "again": ((1, 200),),
    "late": ((0, 400),),
    "fate": ((1, 400),),
    "spare": (None, None),
    "give": (None, (0, 60)),
}
WORDS_OF_ARROWS = ("cut", "change")
WORDS_OF_PLANS = ("late", "fate", "spare", "give")
MOST_PLANNED = 1000000000000


def stands_for(word, slot):
    if slot is None:
        return True
    return is_number(word) and slot[0] <= int(word) and int(word) <= slot[1]


def has_form(words):
    form = FORMS[words[0]]
    if len(words) != len(form) + 1:
        return False
    return all([stands_for(word, slot) for word, slot in zip(words[1:], form)])


def has_plan_form(words, many):
    if len(words) != many + 2 or not are_numbers(words[1:]):
        return False
    return max([int(word) for word in words[1:]]) <= MOST_PLANNED


# All that is refused with NoRow, so that it comes ahead of all else.
def is_row(desk, words):
    if words[0] == "goings":
        return True
    if desk.net is None or (words[0] in WORDS_OF_PLANS and desk.table is None):
        return False
    if words[0] == "plan":
        return has_plan_form(words, len(desk.net.names))
    if words[0] not in FORMS:
        return has_arrow_form(words)
    if not has_form(words):
        return False
    return words[0] not in WORDS_OF_ARROWS or int(words[1]) < len(desk.net.arrows)


def names_told(words):
    if words[0] in FORMS:
        return [word for word, slot in zip(words[1:], FORMS[words[0]]) if slot is None]
    return [] if words[0] == "plan" else names_in_row(words)


def number_words(numbers):
    return [str(number) for number in numbers]


def going_called(desk, name):
    return desk.net.names.index(name)


# Each of the defs below answers a row that has its form; what it lets a stage refuse, it refuses ahead of any change.
def tell_goings(desk, words):
    desk.net = Net(words[1:], [])
    desk.table = None
    desk.puts = []
    return "ok"


def take_arrows(desk, arrows):
    desk.net = Net(desk.net.names, arrows)
    desk.table = None
    return "ok"


def tell_arrows(desk, words):
    return take_arrows(desk, desk.net.arrows + arrows_of_row(words, desk.net.names))


def tell_cut(desk, words):
    number = int(words[1])
    return take_arrows(desk, desk.net.arrows[:number] + desk.net.arrows[number + 1:])


def with_time(arrow, time):
    if isinstance(arrow, Ride):
        return Ride(arrow.start, arrow.goal, time)
    if isinstance(arrow, Wait):
        return Wait(arrow.start, arrow.goal, time, arrow.behind)
    return Back(arrow.start, arrow.goal, time, arrow.behind)


def tell_change(desk, words):
    arrows = list(desk.net.arrows)
    number = int(words[1])
    arrows[number] = with_time(arrows[number], int(words[2]))
    return take_arrows(desk, arrows)


def tell_plan(desk, words):
    desk.table = Table(desk.net, [int(word) for word in words[2:]], int(words[1]))
    return "ok"


def tell_put(desk, words):
    desk.puts.append((going_called(desk, words[1]), int(words[2]), int(words[3])))
    return "ok"


def ask_show(desk, words):
    return shown(desk.net)


def ask_run(desk, words):
    return almanac(desk.net.names, run(desk.net, int(words[1])), 0)


def ask_least(desk, words):
    paper = least_round(desk.net)
    if paper is None:
        return "none"
    times = [fraction_word(time) for time in paper[2]]
    return " ".join([fraction_word(paper[0]), "ring"] + number_words(paper[1]) + ["times"] + times)


def ask_rate(desk, words):
    paper = rate(desk.net, going_called(desk, words[1]))
    return "none" if paper is None else fraction_word(paper[0])


def ask_again(desk, words):
    paper = comes_again(desk.net, int(words[1]))
    return "none" if paper is None else " ".join(number_words([paper[0], paper[1]] + paper[2]))


def ask_late(desk, words):
    return almanac(desk.net.names, late(desk.table, int(words[1]), desk.puts), 0)


def ask_fate(desk, words):
    told = fate(desk.table, desk.puts, int(words[1]))
    if told is None:
        return "none"
    if told[0] == "died":
        return " ".join(["died", str(told[1])])
    return " ".join(["ever", desk.net.names[told[1]], str(told[2])])


def ask_spare(desk, words):
    told = spare(desk.table, going_called(desk, words[1]), going_called(desk, words[2]))
    return "none" if told is None else str(told[0])


def ask_give(desk, words):
    told = give_up(desk.table, desk.puts, going_called(desk, words[1]), int(words[2]))
    return "none" if told is None else " ".join(number_words(told))


ANSWERS = {
    "goings": tell_goings,
    "ride": tell_arrows,
    "wait": tell_arrows,
    "back": tell_arrows,
    "line": tell_arrows,
    "cut": tell_cut,
    "change": tell_change,
    "plan": tell_plan,
    "put": tell_put,
    "show": ask_show,
    "run": ask_run,
    "least": ask_least,
    "rate": ask_rate,
    "again": ask_again,
    "late": ask_late,
    "fate": ask_fate,
    "spare": ask_spare,
    "give": ask_give,
}


class Desk:
    def __init__(self):
        self.net = None
        self.table = None
        self.puts = []
        self.answered = 0

    def say(self, row):
        if not isinstance(row, str):
            raise NoRow(self.answered)
        words = row.split(" ")
        if not is_row(self, words):
            raise NoRow(self.answered)
        if words[0] != "goings":
            refuse_unknown(names_told(words), self.net.names)
        answer = ANSWERS[words[0]](self, words)
        self.answered += 1
        return answer
