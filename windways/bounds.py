"""Stage 15: weights that are a bound, and the walks that show it."""

from windways.mines import are_integers_within, far_end, ways_at
from windways.routes import places_along, routes_of

HIGHEST = 10 ** 9


def is_bound(mine, weights):
    """Tell whether the sum of the weights' products with the amounts is at most 0 in every state."""
    return greatest_along(mine, weights) <= 0


def greatest_along(mine, weights):
    """Return the greatest sum of the weights along a route."""
    return max([sum_along(weights, route) for route in routes_of(mine)])


def sum_along(weights, ways):
    """Return the sum of the weights of some ways."""
    return sum([weights[w] for w in ways])


def weights_within(mine, w, others):
    """Return the weights whose sum is the amount of way w less the sum of the others' amounts."""
    return tuple([1 if k == w else -1 if k in others else 0 for k in range(len(mine[1]))])


def ways_on(mine, begun):
    """Return the ascending tuple of the ways on from a begun route."""
    visited = places_along(mine, begun)
    at = visited[-1]
    if at == mine[3]:
        return ()
    return tuple([w for w in ways_at(mine, at) if far_end(mine, w, at) not in visited])


def place_of(mine, begun):
    """Return the place of a begun route."""
    return places_along(mine, begun)[-1]


def is_walk(mine, weights, value):
    """Tell whether any value is a walk that is right for the weights from the inlet on."""
    return is_walk_form(mine, (), value) and wrong_begun(mine, weights, (), value) is None


def is_walk_form(mine, begun, value):
    """Tell whether any value has the form of a walk for a begun route."""
    if not isinstance(value, tuple) or len(value) not in (1, 2):
        return False
    if len(value) == 1:
        return value[0] == "out"
    word, told = value
    if word == "low":
        return are_integers_within(told, mine[0], -HIGHEST, HIGHEST)
    on = ways_on(mine, begun)
    if word != "on" or not isinstance(told, tuple) or len(told) != len(on):
        return False
    return all([is_walk_form(mine, begun + (w,), walk) for w, walk in zip(on, told)])


def wrong_begun(mine, weights, begun, walk):
    """Return the first begun route, this one or one that goes on from it, whose part is not right, or None."""
    is_out = place_of(mine, begun) == mine[3]
    if walk[0] == "out":
        return None if is_out and sum_along(weights, begun) <= 0 else begun
    if walk[0] == "low":
        return None if is_low(mine, weights, begun, walk[1]) else begun
    if is_out:
        return begun
    for w, part in zip(ways_on(mine, begun), walk[1]):
        wrong = wrong_begun(mine, weights, begun + (w,), part)
        if wrong is not None:
            return wrong
    return None


def is_low(mine, weights, begun, heights):
    """Tell whether ("low", heights) is right for a begun route."""
    left = places_along(mine, begun)[:-1]
    for w, (a, b) in enumerate(mine[1]):
        if a not in left and b not in left and weights[w] + abs(heights[a] - heights[b]) > 0:
            return False
    return sum_along(weights, begun) <= abs(heights[place_of(mine, begun)] - heights[mine[3]])


def walk_for(mine, weights):
    """Return a walk for the weights from the inlet on, or None if they are no bound."""
    return walk_on(mine, ()) if is_bound(mine, weights) else None


def walk_on(mine, begun):
    """Return the walk that goes along all routes which a begun route begins."""
    if place_of(mine, begun) == mine[3]:
        return ("out",)
    return ("on", tuple([walk_on(mine, begun + (w,)) for w in ways_on(mine, begun)]))
