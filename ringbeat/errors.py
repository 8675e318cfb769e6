"""The refusals: one base, and each kind of refusal right under it."""


class BeatError(ValueError):
    pass


class BadNet(BeatError):
    # at is the number of the first arrow that isn't right, None where the fault lies in the lists themselves.
    def __init__(self, at):
        BeatError.__init__(self, f"this makes no net, at {at}")
        self.at = at


class Stuck(BeatError):
    # The ring is copied, so that its maker may go on with the list.
    def __init__(self, ring):
        BeatError.__init__(self, f"a ring of arrows all of behind 0: {ring}")
        self.ring = list(ring)


class Loose(BeatError):
    def __init__(self, going):
        BeatError.__init__(self, f"no arrow leads into going {going}")
        self.going = going


class NoFit(BeatError):
    def __init__(self, arrow):
        BeatError.__init__(self, f"arrow {arrow} has a slack below 0")
        self.arrow = arrow


class TooMany(BeatError):
    def __init__(self, many):
        BeatError.__init__(self, f"too many waits: {many}")
        self.many = many


class Unlike(BeatError):
    pass


class NoRow(BeatError):
    def __init__(self, at):
        BeatError.__init__(self, f"no such row, at {at}")
        self.at = at


class BadName(BeatError):
    def __init__(self, name):
        BeatError.__init__(self, f"no going is called {name!r}")
        self.name = name
