"""Lateness against a table: how it spreads, the rings that keep it, and what becomes of it."""

from ringbeat.nets import way_back
from ringbeat.runs import greatest_told


# What the arrows into a going say of lateness, each as (start, behind, slack).
def links_into(table, going, left_out):
    links = []
    for number in table.net.into(going):
        if number not in left_out:
            arrow = table.net.arrows[number]
            links.append((arrow.start, arrow.behind, table.slack(number)))
    return links


# The last row is the one that is being made, so a behind of b is met b rows ahead of it.
def lateness_in_last_row(rows, links, put):
    most = max(0, put)
    for start, behind, slack in links:
        most = max(most, rows[-1 - behind][start] - slack)
    return most


def late(table, rounds, puts, without=None):
    many = len(table.net.names)
    links = [links_into(table, going, [] if without is None else without) for going in range(many)]
    greatest = greatest_told(puts)
    order = table.net.order()
    depth = table.net.most_behind()
    # Rows for the rounds below 0, in which nothing is late.
    rows = [[0] * many for number in range(depth)]
    for number in range(rounds):
        rows.append([0] * many)
        for going in order:
            put = greatest.get((going, number), 0)
            rows[-1][going] = lateness_in_last_row(rows, links[going], put)
    return rows[depth:]


# Each going is reached from the going asked about by the first tight arrow that comes to it, so no way comes to one
# twice, and the first tight arrow back closes a ring.
def tight_ring(table, going):
    net = table.net
    tight = [number for number in range(len(net.arrows)) if table.slack(number) == 0]
    reached = [going]
    chosen = {}
    done = 0
    while done < len(reached):
        here = reached[done]
        for number in [step for step in tight if net.arrows[step].start == here]:
            goal = net.arrows[number].goal
            if goal == going:
                return way_back(net.arrows, chosen, going, here) + [number]
            if goal not in reached:
                reached.append(goal)
                chosen[goal] = number
        done += 1
    return None


def first_kept(table, rows):
    keepers = [going for going in range(len(table.net.names)) if tight_ring(table, going) is not None]
    for number, row in enumerate(rows):
        for going in keepers:
            if row[going] > 0:
                return ("ever", going, number)
    return None


def fate(table, puts, most):
    rows = late(table, most, puts)
    kept = first_kept(table, rows)
    if kept is not None:
        return kept
    # Whatever is late from round most on and isn't put there comes from a lateness in the rounds looked at.
    beyond = [number for going, number, amount in puts if amount > 0 and number >= most]
    late_rounds = [number for number, row in enumerate(rows) if max(row) > 0] + beyond
    first_free = max(late_rounds, default=-1) + 1
    return ("died", first_free) if first_free + table.net.most_behind() <= most else None
