"""Things dealt to keys at the least cost, with prices that tell that none costs less."""

from fleetpath.checks import check_most, checked_number

MOST_THINGS = 40
MOST_KEYS = 80


def keys_of(costs):
    had = {}
    for thing in costs:
        for key in costs[thing]:
            had[key] = True
    return list(had)


def check_costs(costs, leaving):
    check_most(costs, MOST_THINGS)
    check_most(keys_of(costs), MOST_KEYS)
    for thing in costs:
        checked_number(leaving[thing], 0)
        for key in costs[thing]:
            checked_number(costs[thing][key], 0)


# What is dealt so far. The prices hold for all things at each step: those of keys are never above 0, and no price of a
# thing is above its leaving, nor with that of a key above what that costs. Prices of nought hold, as no cost is below.
class Dealing:
    def __init__(self, costs, leaving):
        self.costs = costs
        self.leaving = leaving
        self.dealt = {}
        self.owners = {}
        self.thing_prices = dict([(thing, 0) for thing in costs])
        self.key_prices = dict([(key, 0) for key in keys_of(costs)])


# By how much the prices of the reached things can grow until one of them can be left, or can have a key that was not
# come to: a tuple of that number, the thing, and the key or None.
def least_step(dealing, reached, ahead):
    least = None
    for thing in reached:
        price = dealing.thing_prices[thing]
        room = dealing.leaving[thing] - price
        if least is None or room < least[0]:
            least = (room, thing, None)
        costs = dealing.costs[thing]
        for key in costs:
            room = costs[key] - price - dealing.key_prices[key]
            if room < least[0] and key not in ahead:
                least = (room, thing, key)
    return least


# What the keys that were come to cost together with the things that have them stays the same.
def move_prices(dealing, reached, ahead, more):
    for thing in reached:
        dealing.thing_prices[thing] += more
    for key in ahead:
        dealing.key_prices[key] -= more


# The thing gets the key, or is left, and the key that it had goes to the thing from which that key was come to.
def hand_on(dealing, thing, key, ahead):
    while True:
        before = dealing.dealt.get(thing)
        dealing.dealt[thing] = key
        if key is not None:
            dealing.owners[key] = thing
        if before is None:
            return
        thing = ahead[before]
        key = before


# A key that has an owner is come to and reaches this one, which may make room for the things ahead. A key once had is
# never free again, so a key that is free has the price 0; and a thing that is left, whose price is its leaving, is
# reached no more. So all prices together are what the dealing costs.
def deal_one(dealing, first):
    reached = [first]
    ahead = {}
    while True:
        step = least_step(dealing, reached, ahead)
        move_prices(dealing, reached, ahead, step[0])
        key = step[2]
        if key is None or key not in dealing.owners:
            hand_on(dealing, step[1], key, ahead)
            return
        ahead[key] = step[1]
        reached.append(dealing.owners[key])


def deal(costs, leaving):
    check_costs(costs, leaving)
    dealing = Dealing(costs, leaving)
    for thing in costs:
        deal_one(dealing, thing)
    return (dealing.dealt, dealing.thing_prices, dealing.key_prices)
