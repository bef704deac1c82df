"""Stage 14: amounts of air, ways within others, locks, and ways with the same air."""

from windways.air import levels_for
from windways.mines import is_place, is_rising, reached_from
from windways.routes import routes_of

# With the ways of a route so wide, all others of width 1, a way of the route carries about a seventh of this or more
# at pressures 1 and 0, each other way at most 1: more than a million times as much as all others together. Pivots of
# the levels are below (2 * WIDE + 12) ** 6, which is far below 10 ** 60.
WIDE = 10 ** 8


def amounts_of(mine, widths, levels):
    """Return the tuple of the amounts of the ways in a state."""
    return tuple([widths[w] * abs(levels[a] - levels[b]) for w, (a, b) in enumerate(mine[1])])


def is_lock(mine, w, others, value):
    """Tell whether any value is a lock for way w and others."""
    return is_lock_form(mine, value) and can_lock(mine, w, others, value)


def is_lock_form(mine, value):
    """Tell whether any value is a pair of a place and a strictly ascending tuple of places."""
    if not isinstance(value, tuple) or len(value) != 2:
        return False
    gate, some = value
    return is_place(mine, gate) and is_rising(some, mine[0] - 1)


def can_lock(mine, w, others, lock):
    """Tell whether a pair in the form of a lock is one for way w and others."""
    gate, some = lock
    if gate in some or mine[2] in some or mine[3] in some:
        return False
    if not all([x == gate or x in some for x in mine[1][w]]):
        return False
    return all([k in others or not leads_past(way, gate, some) for k, way in enumerate(mine[1])])


def leads_past(way, gate, some):
    """Tell whether a way joins a place of some to a place that is neither in some nor the gate."""
    a, b = way
    if a in some:
        return b not in some and b != gate
    return b in some and a != gate


def lock_for(mine, w, others):
    """Return a lock for way w and others, or None."""
    for gate in range(mine[0]):
        some = places_behind(mine, w, others, gate)
        if mine[2] not in some and mine[3] not in some:
            return (gate, some)
    return None


def places_behind(mine, w, others, gate):
    """Return the ascending tuple of the places joined to way w without others and without visiting the gate."""
    places, ways, inlet, outlet = mine
    open_ways = tuple([way for k, way in enumerate(ways) if k not in others and gate not in way])
    return reached_from((places, open_ways, inlet, outlet), [x for x in ways[w] if x != gate])


def is_within_others(mine, w, others):
    """Tell whether the amount of way w is at most the sum of those of others, in every state."""
    return lock_for(mine, w, others) is not None


def strong_state(mine, route):
    """Return a state (widths, levels) in which nearly all air goes along the route."""
    widths = tuple([WIDE if w in route else 1 for w in range(len(mine[1]))])
    return (widths, levels_for(mine, widths))


def same_air(mine):
    """Return the ascending tuple of the ascending tuples of ways whose amounts are equal in every state."""
    routes = routes_of(mine)
    ways_by_routes = {}
    for w in range(len(mine[1])):
        using = tuple([k for k, route in enumerate(routes) if w in route])
        ways_by_routes.setdefault(using, []).append(w)
    return tuple(sorted([tuple(ways) for ways in ways_by_routes.values()]))
