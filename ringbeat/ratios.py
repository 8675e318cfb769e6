"""Fractions as tuples (top, bottom) in lowest terms, and times that may be None: never."""


def common_divisor(one, other):
    while other != 0:
        rest = one % other
        one = other
        other = rest
    return abs(one)


def ratio(top, bottom):
    divisor = common_divisor(top, bottom)
    # A divisor below 0 turns both signs at once, so the bottom comes out from 1 on.
    if bottom < 0:
        divisor = -divisor
    return (top // divisor, bottom // divisor)


def plus(one, other):
    return ratio(one[0] * other[1] + other[0] * one[1], one[1] * other[1])


def minus(one, other):
    return plus(one, scaled(other, -1))


def scaled(one, whole):
    return ratio(one[0] * whole, one[1])


# Both bottoms are above 0, so the products stand to one another as the fractions do.
def under(one, other):
    return one[0] * other[1] < other[0] * one[1]


def later(when, more):
    if when is None:
        return None
    return when + more


def latest(one, other):
    if one is None:
        return other
    if other is None:
        return one
    return max(one, other)
