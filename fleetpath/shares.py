"""Shares of names, which tell from below how few rows can have all names."""

from fleetpath.errors import FleetError, NoTrip
from fleetpath.portions import NOUGHT, ONE, below, fraction, minus, plus, together


class BadShare(FleetError):
    def __init__(self, name):
        self.name = name


class Overfull(FleetError):
    def __init__(self, row):
        self.row = row


def weight(shares, row):
    for name in row:
        if name not in shares:
            raise NoTrip(name)
    return together([shares[name] for name in row])


def weights_of(shares, rows):
    return [weight(shares, row) for row in rows]


def fitting(shares, rows):
    weights = weights_of(shares, rows)
    if any([below(shares[name], NOUGHT) for name in shares]):
        return False
    return not any([below(ONE, heavy) for heavy in weights])


def even(rows):
    longest = {}
    for row in rows:
        for name in row:
            longest[name] = max(longest.get(name, 0), len(row))
    return dict([(name, fraction(1, longest[name])) for name in longest])


def check_shares(shares):
    for name in shares:
        if below(shares[name], NOUGHT):
            raise BadShare(name)


def check_weights(weights, rows):
    for heavy, row in zip(weights, rows):
        if below(ONE, heavy):
            raise Overfull(list(row))


def greatest(many):
    most = many[0]
    for one in many:
        if below(most, one):
            most = one
    return most


# The heaviest of the name's rows becomes just full. It stays so, as weights only grow and none goes above 1.
def raise_one(name, told, rows, weights):
    holding = [place for place, row in enumerate(rows) if name in row]
    if len(holding) == 0:
        return
    more = minus(ONE, greatest([weights[place] for place in holding]))
    told[name] = plus(told[name], more)
    for place in holding:
        weights[place] = plus(weights[place], more)


def raised(shares, rows):
    weights = weights_of(shares, rows)
    check_shares(shares)
    check_weights(weights, rows)
    told = dict(shares)
    for name in shares:
        raise_one(name, told, rows, weights)
    return told
