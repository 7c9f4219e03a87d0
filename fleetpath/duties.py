"""The lawful duties of a table: all rows of a few trips that a rule lets by."""

from fleetpath.blocks import check_row
from fleetpath.checks import check_most
from fleetpath.errors import FleetError
from fleetpath.hours import sheet
from fleetpath.links import links

DEEP = 5
MOST_DUTIES = 400


class Unlawful(FleetError):
    def __init__(self, name):
        self.name = name


def check_alone(table, home, rule, name):
    if not rule.fits(sheet(table, home, [name])):
        raise Unlawful(name)


def longer_by_one(table, home, rule, names, behind):
    if len(names) == DEEP:
        return []
    tried = [names + [name] for name in behind]
    return [row for row in tried if rule.fits(sheet(table, home, row))]


# The beginnings of lawful duties are lawful, so all are come to by going on from lawful ones. It is asked for too
# many at each step, as far more than these could be come to.
def lawful(table, home, rule):
    check_row(table, home, [])
    for name in table.names():
        check_alone(table, home, rule, name)
    behind = links(table)
    duties = [[name] for name in table.names()]
    walked = 0
    while walked < len(duties):
        names = duties[walked]
        duties.extend(longer_by_one(table, home, rule, names, behind[names[-1]]))
        check_most(duties, MOST_DUTIES)
        walked += 1
    return duties
