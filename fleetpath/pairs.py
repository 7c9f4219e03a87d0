"""Right things given to left things: the greatest matching, its cover, and what lacks."""

from fleetpath.checks import check_most

MOST_LEFTS = 40


def check_rows(rows):
    check_most(rows, MOST_LEFTS)
    for left in rows:
        check_most(rows[left], MOST_LEFTS)


# A right thing that has an owner is taken only where that owner finds another one. One that was
# tried from elsewhere leads nowhere from here either, so each is tried once.
def find_right(rows, left, owners, tried):
    for right in rows[left]:
        if right not in tried:
            tried[right] = True
            if right not in owners or find_right(rows, owners[right], owners, tried):
                owners[right] = left
                return True
    return False


# Of each right thing that is given, the left thing that has it.
def greatest_owners(rows):
    check_rows(rows)
    owners = {}
    for left in rows:
        find_right(rows, left, owners, {})
    return owners


# What can be come to from left things that have nothing: to all right things of a left one, and from
# a right one to its owner. It has one, for else the matching could be greater.
def reached(rows):
    owners = greatest_owners(rows)
    served = dict([(owners[right], True) for right in owners])
    lefts = [left for left in rows if left not in served]
    rights = {}
    walked = 0
    while walked < len(lefts):
        left = lefts[walked]
        for right in rows[left]:
            if right not in rights:
                rights[right] = True
                lefts.append(owners[right])
        walked += 1
    return (lefts, list(rights))


def matching(rows):
    owners = greatest_owners(rows)
    return dict([(owners[right], right) for right in owners])


# Left things that are not come to have each a right thing that is not come to either; and a right
# thing of one that is come to is come to: so the cover covers, with one thing for each pair.
def cover(rows):
    found = reached(rows)
    return ([left for left in rows if left not in found[0]], found[1])


# All right things of these lefts are come to, and each is owned by one of them: what is short is just
# the left things that have nothing.
def lacking(rows):
    return reached(rows)[0]
