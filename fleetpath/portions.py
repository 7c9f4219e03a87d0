"""Exact fractions as tuples of two whole numbers."""

from fleetpath.errors import FleetError

NOUGHT = (0, 1)
ONE = (1, 1)


class NoFraction(FleetError):
    def __init__(self, top):
        self.top = top


def greatest_divisor(one, other):
    while other != 0:
        rest = one % other
        one = other
        other = rest
    return one


# The divisor takes the bottom's sign with it, so that the bottom comes out above 0.
def fraction(top, bottom):
    if bottom == 0:
        raise NoFraction(top)
    divisor = greatest_divisor(abs(top), abs(bottom))
    if bottom < 0:
        divisor = -divisor
    return (top // divisor, bottom // divisor)


def plus(one, other):
    return fraction(one[0] * other[1] + other[0] * one[1], one[1] * other[1])


def minus(one, other):
    return fraction(one[0] * other[1] - other[0] * one[1], one[1] * other[1])


def below(one, other):
    return one[0] * other[1] < other[0] * one[1]


# Dividing whole numbers rounds down, of numbers below nought too: turned round twice it rounds up.
def ceiling(one):
    return -(-one[0] // one[1])


def together(many):
    total = NOUGHT
    for one in many:
        total = plus(total, one)
    return total
