"""What is asked of names, numbers and lists before they are taken."""

from fleetpath.errors import LIMIT, BadName, BadNumber, TooMany, Twice

NAME_SIGNS = "abcdefghijklmnopqrstuvwxyz0123456789"
LONGEST_NAME = 12


def checked_name(name):
    if len(name) < 1 or len(name) > LONGEST_NAME:
        raise BadName(name)
    for sign in name:
        if sign not in NAME_SIGNS:
            raise BadName(name)
    return name


def checked_number(value, least):
    if value < least or value > LIMIT:
        raise BadNumber(value)
    return value


# A text that is no name is told as such, also where it stood ahead.
def checked_new_name(name, had):
    checked_name(name)
    if name in had:
        raise Twice(name)
    return name


def check_once(names):
    had = {}
    for name in names:
        if name in had:
            raise Twice(name)
        had[name] = True


def check_most(things, most):
    if len(things) > most:
        raise TooMany(most)
