"""Papers looked at for themselves: ways with heights, things too few to go round, and dealings with prices."""

from fleetpath.prices import keys_of


# Of each two places between which ways lead straight, the minutes of the least of these.
def least_minutes(ways):
    least = {}
    for origin, goal, minutes in ways:
        if (origin, goal) not in least or minutes < least[(origin, goal)]:
            least[(origin, goal)] = minutes
    return least


def heights_hold(ways, heights):
    for origin, goal, minutes in ways:
        if origin in heights:
            if goal not in heights or heights[goal] > heights[origin] + minutes:
                return False
    return True


# The minutes of the places' steps together, or None where no way leads from one to the next.
def minutes_along(ways, places):
    least = least_minutes(ways)
    minutes = 0
    for step in zip(places, places[1:]):
        if step not in least:
            return None
        minutes += least[step]
    return minutes


def goes_between(way, origin, goal):
    return len(way) > 0 and way[0] == origin and way[-1] == goal


def way_holds(ways, origin, goal, way, heights):
    if heights.get(origin) != 0 or not heights_hold(ways, heights):
        return False
    if way is None:
        return goal not in heights
    if goal not in heights or not goes_between(way, origin, goal):
        return False
    return minutes_along(ways, way) == heights[goal]


def none_twice(things):
    return len(set(things)) == len(things)


def few_holds(rows, lefts, rights):
    if not none_twice(lefts) or len(rights) >= len(lefts):
        return False
    told = dict([(right, True) for right in rights])
    for left in lefts:
        if left not in rows or not all([right in told for right in rows[left]]):
            return False
    return True


def same_things(costs, things):
    return set(costs) == set(things)


def dealing_holds(costs, dealt):
    given = [dealt[thing] for thing in dealt if dealt[thing] is not None]
    if not none_twice(given):
        return False
    return all([dealt[thing] is None or dealt[thing] in costs[thing] for thing in dealt])


def prices_hold(costs, leaving, thing_prices, key_prices):
    if any([key_prices[key] > 0 for key in key_prices]):
        return False
    for thing in costs:
        price = thing_prices[thing]
        if price > leaving[thing]:
            return False
        if any([price + key_prices[key] > costs[thing][key] for key in costs[thing]]):
            return False
    return True


def cost_of_dealing(costs, leaving, dealt):
    return sum([leaving[thing] if dealt[thing] is None else costs[thing][dealt[thing]] for thing in dealt])


# The things and keys are asked for first, as all else is looked up by them.
def deal_holds(costs, leaving, dealt, thing_prices, key_prices):
    if not all([same_things(costs, things) for things in (leaving, dealt, thing_prices)]):
        return False
    if not same_things(keys_of(costs), key_prices) or not dealing_holds(costs, dealt):
        return False
    if not prices_hold(costs, leaving, thing_prices, key_prices):
        return False
    prices = sum(thing_prices.values()) + sum(key_prices.values())
    return prices == cost_of_dealing(costs, leaving, dealt)
