"""Few duties that have all names, and how few they can be at the least."""

from fleetpath.checks import check_most, check_once
from fleetpath.errors import FleetError, NoTrip, Twice
from fleetpath.portions import below, ceiling, fraction, together
from fleetpath.shares import even, raised

MOST_NAMES = 40
MOST_ROWS = 400
FEW = 8


class NoDuty(FleetError):
    def __init__(self, name):
        self.name = name


def check_names_of_row(row, known):
    had = {}
    for name in row:
        if name not in known:
            raise NoTrip(name)
        if name in had:
            raise Twice(name)
        had[name] = True


def check_each_in_a_row(names, rows):
    held = {}
    for row in rows:
        for name in row:
            held[name] = True
    for name in names:
        if name not in held:
            raise NoDuty(name)


def check_crew(names, rows):
    check_most(names, MOST_NAMES)
    check_most(rows, MOST_ROWS)
    check_once(names)
    known = dict([(name, True) for name in names])
    for row in rows:
        check_names_of_row(row, known)
    check_each_in_a_row(names, rows)


def longest_new(rows, had):
    longest = []
    for row in rows:
        fresh = [name for name in row if name not in had]
        if len(fresh) > len(longest):
            longest = fresh
    return longest


def greedy(names, rows):
    check_crew(names, rows)
    picks = []
    had = {}
    while len(had) < len(names):
        pick = longest_new(rows, had)
        picks.append(pick)
        for name in pick:
            had[name] = True
    return picks


def harmonic(many):
    return together([fraction(1, number) for number in range(1, many + 1)])


def priced(names, rows):
    picks = greedy(names, rows)
    whole = harmonic(max([len(row) for row in rows], default=0))
    prices = {}
    for pick in picks:
        for name in pick:
            prices[name] = fraction(whole[1], whole[0] * len(pick))
    return prices


# Step by step, each list of names that can be left with the picks that lead there. In whatever picks there are, one
# has the first name left, so it is enough to go on with that one; and what is come to first is come to by the fewest.
# Of few names there are few such lists.
def fewest_picks(names, rows):
    lists = [tuple(names)]
    picks_to = {lists[0]: []}
    walked = 0
    while () not in picks_to:
        left = lists[walked]
        for row in [row for row in rows if left[0] in row]:
            rest = tuple([name for name in left if name not in row])
            if rest not in picks_to:
                picks_to[rest] = picks_to[left] + [[name for name in row if name in left]]
                lists.append(rest)
        walked += 1
    return picks_to[()]


def crew(names, rows):
    if len(names) > FEW:
        return greedy(names, rows)
    check_crew(names, rows)
    return fewest_picks(names, rows)


# Both the prices and the even shares fit the rows; of what they are raised to, the one with the greater sum is no
# less than either.
def best_shares(names, rows):
    one = raised(priced(names, rows), rows)
    other = raised(even(rows), rows)
    return other if below(sum_of(one), sum_of(other)) else one


def sum_of(shares):
    return together([shares[name] for name in shares])


def bounds(names, rows):
    duties = crew(names, rows)
    shares = best_shares(names, rows)
    return (ceiling(sum_of(shares)), len(duties), duties, shares)
