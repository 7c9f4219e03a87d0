"""Open trips linked anew by links alone, so that the fewest are left, with the fewest new links."""

from fleetpath.links import linked
from fleetpath.mending import BIG, begun_of_rows, check_mending, in_time, paper_of, tails_of_rows

# How many trips going behind themselves it costs to leave one otherwise: more than there can be open ones.
NEVER = 50


def open_trips(tails, loose):
    names = []
    for key in tails:
        names.extend(tails[key])
    return names + loose


# Of each trip that stood straight behind another one in a tail, that other one.
def trips_ahead(tails):
    ahead = {}
    for key in tails:
        for one, other in zip(tails[key], tails[key][1:]):
            ahead[other] = one
    return ahead


# What it costs that a key begins its new tail with a trip, or None where it may not. A key may be under way to the
# first trip of its own tail, so it is not asked where it stands now.
def cost_of_first(table, judge, key, had, tail, name, now):
    if len(tail) > 0 and tail[0] == name:
        return 0 if len(had) == 0 or linked(table, had[-1], name) else None
    return 1 if in_time(table, judge, key, had, name, now) else None


# What it costs that a trip goes behind another one, or behind itself, or None where it may not.
def cost_of_link(table, one, other, ahead):
    if one == other:
        return BIG
    if not linked(table, one, other):
        return None
    return 0 if ahead.get(other) == one else 1


# The numbers of the keys that may have a trip: first those of rows, then those behind the open trips.
def numbered(costs):
    return dict([(number, cost) for number, cost in enumerate(costs) if cost is not None])


def chain_behind(number, names, behind, shift):
    chain = []
    while number in behind:
        chain.append(names[behind[number]])
        number = shift + behind[number]
    return chain


def relink(table, judge, rows, now, loose, failed):
    check_mending(table, judge, rows, loose, failed)
    had = begun_of_rows(table, rows, now)
    tails = tails_of_rows(rows, had)
    names = open_trips(tails, loose)
    ahead = trips_ahead(tails)
    costs = {}
    for number, name in enumerate(names):
        firsts = [
            None if key in failed else cost_of_first(table, judge, key, had[key], tails[key], name, now) for key in rows
        ]
        costs[number] = numbered(firsts + [cost_of_link(table, one, name, ahead) for one in names])
    leaving = dict([(number, NEVER * BIG) for number in range(len(names))])
    paper = paper_of(names, costs, leaving)
    dealt = paper[3]
    behind = dict([(dealt[number], number) for number in dealt])
    told = {}
    for number, key in enumerate(rows):
        told[key] = had[key] + chain_behind(number, names, behind, len(rows))
    left = [name for number, name in enumerate(names) if dealt[number] == len(rows) + number]
    return (told, left, paper)
