"""The arrows of a net: rides, waits and backs, all of them under one class."""


# An arrow looks at nothing that it is made of: the net that it comes into does.
class Arrow:
    def __init__(self, start, goal, time, behind):
        self.start = start
        self.goal = goal
        self.time = time
        self.behind = behind

    def row_to_time(self, names):
        return " ".join([self.word(), names[self.start], names[self.goal], str(self.time)])

    def row_to_behind(self, names):
        return " ".join([self.row_to_time(names), str(self.behind)])


class Ride(Arrow):
    def __init__(self, start, goal, time):
        Arrow.__init__(self, start, goal, time, 0)

    def word(self):
        return "ride"

    def may_drop(self):
        return False

    # The behind of a ride is always 0, so its row leaves it out.
    def row(self, names):
        return self.row_to_time(names)


class Wait(Arrow):
    def __init__(self, start, goal, time, behind=0):
        Arrow.__init__(self, start, goal, time, behind)

    def word(self):
        return "wait"

    def may_drop(self):
        return True

    def row(self, names):
        return self.row_to_behind(names)


class Back(Arrow):
    def __init__(self, start, goal, time, behind=1):
        Arrow.__init__(self, start, goal, time, behind)

    def word(self):
        return "back"

    def may_drop(self):
        return False

    def row(self, names):
        return self.row_to_behind(names)
