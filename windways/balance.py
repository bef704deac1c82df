"""Stage 3: levels that are balanced, and widths for them."""

from math import lcm

from windways.air import sign_between
from windways.mines import far_end, inner_places, ways_at

HIGHER = 1
LOWER = -1


def is_balanced(mine, levels):
    """Tell whether the inlet is above the outlet and each inner place has ways up and down, or neither."""
    _, _, inlet, outlet = mine
    if levels[inlet] <= levels[outlet]:
        return False
    for x in inner_places(mine):
        has_higher = way_toward(mine, levels, x, HIGHER) is not None
        has_lower = way_toward(mine, levels, x, LOWER) is not None
        if has_higher != has_lower:
            return False
    return True


def way_toward(mine, levels, x, side):
    """Return the first way from x to a place that is HIGHER, or LOWER, than x, or None."""
    for w in ways_at(mine, x):
        if sign_between(levels, far_end(mine, w, x), x) == side:
            return w
    return None


def widths_for(mine, levels):
    """Return widths with which the balanced levels are a state."""
    ways = mine[1]
    air = air_along_slopes(mine, levels)
    drops = [abs(levels[a] - levels[b]) for a, b in ways]
    # A multiple of every drop, so that the air, taken so many times, has whole widths in all ways.
    common = 1
    for drop in drops:
        if drop > 0:
            common = lcm(common, drop)
    return tuple([air[w] * common // drop if drop > 0 else 1 for w, drop in enumerate(drops)])


def air_along_slopes(mine, levels):
    """Return whole amounts of air, above 0 in each way that is not still, that balance at inner places.

    For each way that is not still, one unit of air goes from the inlet through it to the outlet.
    """
    ways = mine[1]
    air = [0] * len(ways)
    for w, (a, b) in enumerate(ways):
        sign = sign_between(levels, a, b)
        if sign != 0:
            high, low = (a, b) if sign == 1 else (b, a)
            for used in slope_from(mine, levels, high, HIGHER) + [w] + slope_from(mine, levels, low, LOWER):
                air[used] += 1
    return air


def slope_from(mine, levels, x, side):
    """Return ways from x on, each to a place that is HIGHER, or LOWER, until no way leads on.

    With balanced levels an inner place that was reached has a way on, so that the slope
    ends at the inlet, or at the outlet.
    """
    slope = []
    at = x
    w = way_toward(mine, levels, at, side)
    while w is not None:
        slope.append(w)
        at = far_end(mine, w, at)
        w = way_toward(mine, levels, at, side)
    return slope
