"""Plans and papers looked at by somebody who plans nothing: each holds, or it doesn't."""

from fleetpath.blocks import block_length, check_row, check_short
from fleetpath.care import DAYS, check_weeks, needs_care, nights
from fleetpath.checks import checked_number
from fleetpath.duties import DEEP, lawful
from fleetpath.errors import FleetError
from fleetpath.giving import fit_cars
from fleetpath.hours import sheet
from fleetpath.links import linked
from fleetpath.papers import none_twice, same_things
from fleetpath.portions import NOUGHT, below, ceiling, fraction, together
from fleetpath.shares import fitting


def flat(lists):
    told = []
    for one in lists:
        told.extend(one)
    return told


def each_trip_once(table, lists):
    names = flat(lists)
    return none_twice(names) and same_things(names, table.names())


def linked_throughout(table, names):
    return all([linked(table, one, other) for one, other in zip(names, names[1:])])


def linked_ahead_of(table, one, names):
    return any([linked(table, one, other) for other in names])


def are_apart(table, names):
    known = table.names()
    if not none_twice(names) or not all([name in known for name in names]):
        return False
    return not any([linked_ahead_of(table, one, names) for one in names])


def cars_hold(table, chains, apart):
    if [] in chains or len(apart) != len(chains):
        return False
    if not each_trip_once(table, chains) or not are_apart(table, apart):
        return False
    return all([linked_throughout(table, chain) for chain in chains])


def can_be_cut(table, home, names, limit):
    try:
        check_row(table, home, names)
        for name in names:
            check_short(table, home, name, limit)
    except FleetError:
        return False
    return True


# A piece that holds can't be made longer, so there is just one list of pieces that is let by.
def pieces_hold(table, home, names, limit, pieces):
    if not can_be_cut(table, home, names, limit):
        return False
    if [] in pieces or flat(pieces) != names:
        return False
    if any([block_length(table, home, piece) > limit for piece in pieces]):
        return False
    longer = [piece + following[:1] for piece, following in zip(pieces, pieces[1:])]
    return all([block_length(table, home, piece) > limit for piece in longer])


def giving_holds(table, home, blocks, cars, names):
    try:
        fit = fit_cars(table, home, blocks, cars)
    except FleetError:
        return False
    if len(names) != len(blocks) or not none_twice(names):
        return False
    return all([name in able for name, able in zip(names, fit)])


def weeks_are_let_by(weeks, bays):
    try:
        check_weeks(weeks)
        checked_number(bays, 0)
    except FleetError:
        return False
    return True


def night_holds(metre, due, loads, night):
    if needs_care(metre, due, loads):
        return night in nights(metre, due, loads)
    return night is None


def care_holds(weeks, bays, told):
    if not weeks_are_let_by(weeks, bays):
        return False
    if not same_things([name for name, metre, due, loads in weeks], told):
        return False
    if not all([night_holds(metre, due, loads, told[name]) for name, metre, due, loads in weeks]):
        return False
    taken = list(told.values())
    return all([taken.count(night) <= bays for night in range(DAYS)])


# A car that has no night at all counts too: it needs care as much, and there is no room for it either.
def must_come_within(metre, due, loads, first, last):
    if not needs_care(metre, due, loads):
        return False
    return all([first <= night <= last for night in nights(metre, due, loads)])


def crowd_holds(weeks, bays, first, last, names):
    if not weeks_are_let_by(weeks, bays) or not 0 <= first <= last < DAYS:
        return False
    crowd = [name for name, metre, due, loads in weeks if must_come_within(metre, due, loads, first, last)]
    if not none_twice(names) or not all([name in crowd for name in names]):
        return False
    return len(names) > bays * (last - first + 1)


def is_lawful(table, home, rule, names):
    if len(names) < 1 or len(names) > DEEP:
        return False
    try:
        parts = sheet(table, home, names)
    except FleetError:
        return False
    return rule.fits(parts)


def duties_hold(table, home, rule, duties):
    if home not in table.roads.names() or not each_trip_once(table, duties):
        return False
    return all([is_lawful(table, home, rule, names) for names in duties])


def is_share(share):
    return share[1] > 0 and fraction(share[0], share[1]) == share and not below(share, NOUGHT)


def shares_hold(table, home, rule, shares):
    if not same_things(table.names(), shares) or not all([is_share(shares[name]) for name in shares]):
        return False
    try:
        rows = lawful(table, home, rule)
    except FleetError:
        return False
    return fitting(shares, rows)


def bounds_hold(table, home, rule, told):
    duties = told[2]
    shares = told[3]
    if not duties_hold(table, home, rule, duties) or not shares_hold(table, home, rule, shares):
        return False
    return told[1] == len(duties) and told[0] == ceiling(together(list(shares.values())))
