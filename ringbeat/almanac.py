"""Almanacs: rows of times as a text in columns."""


def time_word(time):
    return "-" if time is None else str(time)


def widest(words):
    return max([len(word) for word in words])


def number_column(first, many):
    words = [str(first + count) for count in range(many)]
    width = widest(["round"] + words)
    return ["round".ljust(width)] + [word.zfill(width) for word in words]


def time_column(name, times):
    words = [name] + [time_word(time) for time in times]
    width = widest(words)
    return [word.rjust(width) for word in words]


def line_across(columns, place):
    return " ".join([column[place] for column in columns])


def almanac(names, rows, first):
    columns = [number_column(first, len(rows))]
    for going, name in enumerate(names):
        columns.append(time_column(name, [row[going] for row in rows]))
    return "\n".join([line_across(columns, place) for place in range(len(rows) + 1)])
