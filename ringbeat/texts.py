"""Nets as texts: numbers and fractions in words, nets written as rows and read from them."""

from ringbeat.arrows import Back, Ride, Wait
from ringbeat.errors import BadName, NoRow
from ringbeat.nets import Net, is_figure

MOST_FIGURES = 15


def fraction_word(fraction):
    top = str(fraction[0])
    if fraction[1] == 1:
        return top
    return top + "/" + str(fraction[1])


def is_number(word):
    if len(word) < 1 or len(word) > MOST_FIGURES or not all([is_figure(sign) for sign in word]):
        return False
    return word == "0" or word[0] != "0"


def are_numbers(words):
    return all([is_number(word) for word in words])


# A line has its count of cars, and then names and times by turns.
def has_arrow_form(words):
    if words[0] == "ride":
        return len(words) == 4 and is_number(words[3])
    if words[0] == "wait" or words[0] == "back":
        return len(words) == 5 and are_numbers(words[3:])
    if words[0] == "line":
        return len(words) >= 4 and len(words) % 2 == 0 and are_numbers([words[1]] + words[3::2])
    return False


def names_in_row(words):
    return words[2::2] if words[0] == "line" else words[1:3]


def refuse_unknown(told, names):
    for name in told:
        if name not in names:
            raise BadName(name)


def arrow_of_row(words, names):
    start = names.index(words[1])
    goal = names.index(words[2])
    if words[0] == "ride":
        return Ride(start, goal, int(words[3]))
    if words[0] == "wait":
        return Wait(start, goal, int(words[3]), int(words[4]))
    return Back(start, goal, int(words[3]), int(words[4]))


def arrows_of_line(words, names):
    goings = [names.index(name) for name in words[2::2]]
    times = [int(word) for word in words[3::2]]
    rides = [Ride(start, goal, time) for start, goal, time in zip(goings, goings[1:], times)]
    return rides + [Back(goings[-1], goings[0], times[-1], int(words[1]))]


def arrows_of_row(words, names):
    if words[0] == "line":
        return arrows_of_line(words, names)
    return [arrow_of_row(words, names)]


def shown(net):
    return "\n".join([" ".join(["goings"] + net.names)] + [arrow.row(net.names) for arrow in net.arrows])


# The names are looked at by the net alone, behind all rows: till then any word of the first row counts as one.
def read(text):
    if not isinstance(text, str):
        raise NoRow(0)
    rows = [row.split(" ") for row in text.split("\n")]
    if rows[0][0] != "goings":
        raise NoRow(0)
    names = rows[0][1:]
    arrows = []
    for number in range(1, len(rows)):
        if not has_arrow_form(rows[number]):
            raise NoRow(number)
        refuse_unknown(names_in_row(rows[number]), names)
        arrows.extend(arrows_of_row(rows[number], names))
    return Net(names, arrows)
