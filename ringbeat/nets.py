"""Nets: goings with names, the arrows between them, and which goings lead to which."""

from ringbeat.arrows import Back, Ride
from ringbeat.errors import BadNet, Stuck

MOST_NAMES = 40
MOST_SIGNS = 8
MOST_ARROWS = 120
MOST_TIME = 1000000000
MOST_BEHIND = 4


# Python's own isalpha and isdigit let by letters and figures of other scripts too.
def is_letter(sign):
    return "a" <= sign and sign <= "z"


def is_figure(sign):
    return "0" <= sign and sign <= "9"


def is_name(word):
    if not isinstance(word, str) or len(word) < 1 or len(word) > MOST_SIGNS:
        return False
    return is_letter(word[0]) and all([is_letter(sign) or is_figure(sign) for sign in word])


def are_names(names):
    if not isinstance(names, list) or len(names) < 1 or len(names) > MOST_NAMES:
        return False
    seen = {}
    for name in names:
        if not is_name(name) or name in seen:
            return False
        seen[name] = True
    return True


def lies_within(number, least, most):
    if not isinstance(number, int) or isinstance(number, bool):
        return False
    return least <= number and number <= most


def is_right(arrow, many):
    least = 1 if isinstance(arrow, Back) else 0
    most = 0 if isinstance(arrow, Ride) else MOST_BEHIND
    if not lies_within(arrow.start, 0, many - 1) or not lies_within(arrow.goal, 0, many - 1):
        return False
    return lies_within(arrow.time, 0, MOST_TIME) and lies_within(arrow.behind, least, most)


# A going is placed once all that it waits for in its own round is; on a ring of behind 0, and past it, none ever is.
def placed_goings(many, arrows):
    within = [arrow for arrow in arrows if arrow.behind == 0]
    waited = [0] * many
    for arrow in within:
        waited[arrow.goal] += 1
    placed = [going for going in range(many) if waited[going] == 0]
    done = 0
    while done < len(placed):
        here = placed[done]
        for arrow in within:
            if arrow.start == here:
                waited[arrow.goal] -= 1
                if waited[arrow.goal] == 0:
                    placed.append(arrow.goal)
        done += 1
    return placed


# chosen has an arrow into each going that the walk comes to, so the walk must come to some going again.
def ring_back_from(arrows, chosen, going):
    here = going
    seen = {}
    way = []
    while here not in seen:
        seen[here] = len(way)
        way.append(chosen[here])
        here = arrows[chosen[here]].start
    return list(reversed(way[seen[here]:]))


# chosen has an arrow into each going on the way but its start, and the walk back ends there.
def way_back(arrows, chosen, start, goal):
    here = goal
    way = []
    while here != start:
        way.append(chosen[here])
        here = arrows[chosen[here]].start
    return list(reversed(way))


# Each going that isn't placed waits in its own round for another one that isn't.
def stuck_ring(many, arrows, placed):
    chosen = {}
    for number, arrow in enumerate(arrows):
        if arrow.behind == 0 and arrow.start not in placed:
            chosen[arrow.goal] = number
    unplaced = [going for going in range(many) if going not in placed]
    return ring_back_from(arrows, chosen, unplaced[0])


class Net:
    def __init__(self, names, arrows):
        if not are_names(names) or len(arrows) > MOST_ARROWS:
            raise BadNet(None)
        for number, arrow in enumerate(arrows):
            if not is_right(arrow, len(names)):
                raise BadNet(number)
        placed = placed_goings(len(names), arrows)
        if len(placed) < len(names):
            raise Stuck(stuck_ring(len(names), arrows, placed))
        self.names = list(names)
        self.arrows = list(arrows)

    def most_behind(self):
        return max([1] + [arrow.behind for arrow in self.arrows])

    def into(self, going):
        return [number for number, arrow in enumerate(self.arrows) if arrow.goal == going]

    def order(self):
        return placed_goings(len(self.names), self.arrows)


def leads_to(net, going):
    found = [going]
    done = 0
    while done < len(found):
        here = found[done]
        for number in net.into(here):
            if net.arrows[number].start not in found:
                found.append(net.arrows[number].start)
        done += 1
    return sorted(found)
