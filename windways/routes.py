"""Stage 7: routes from the inlet to the outlet, and the ways that turn."""

from windways.mines import far_end, ways_at


def routes_of(mine):
    """Return the ascending tuple of all routes."""
    return tuple(sorted(routes_on(mine, (), (mine[2],))))


def routes_on(mine, begun, visited):
    """Return the list of the routes that begin with these ways, which lead through the places visited."""
    if visited[-1] == mine[3]:
        return [begun]
    found = []
    for w in ways_at(mine, visited[-1]):
        end = far_end(mine, w, visited[-1])
        if end not in visited:
            found.extend(routes_on(mine, begun + (w,), visited + (end,)))
    return found


def places_along(mine, ways):
    """Return the tuple of the places visited along ways from the inlet, or None if no way leads on or back."""
    visited = mine[2:3]
    for w in ways:
        at = visited[-1]
        if at not in mine[1][w] or far_end(mine, w, at) in visited:
            return None
        visited = visited + (far_end(mine, w, at),)
    return visited


def is_route(mine, ways):
    """Tell whether a tuple of numbers of ways is a route."""
    visited = places_along(mine, ways)
    return visited is not None and visited[-1] == mine[3]


def side_in(mine, route, w):
    """Return 1 if the route uses way w forward, -1 if it uses it back, 0 if it does not use it."""
    at = mine[2]
    for used in route:
        if used == w:
            return 1 if at == mine[1][w][0] else -1
        at = far_end(mine, used, at)
    return 0


def sides_of(mine, w):
    """Return the ascending tuple of the directions, 1 and -1, in which routes use way w."""
    return tuple([side for side in (-1, 1) if route_using(mine, w, side) is not None])


def route_using(mine, w, side):
    """Return the first route that uses way w in the direction side, 1 or -1, or None."""
    for route in routes_of(mine):
        if side_in(mine, route, w) == side:
            return route
    return None


def turning_ways(mine):
    """Return the ascending tuple of the numbers of the ways that turn."""
    return tuple([w for w in range(len(mine[1])) if len(sides_of(mine, w)) == 2])
