"""Stage 1: mines, that is tuples (places, ways, inlet, outlet)."""

from windways.errors import InvalidMine

MOST_PLACES = 8
MOST_WAYS = 12


def require_mine(value):
    """Return the value if it is a mine, otherwise raise InvalidMine."""
    if not has_mine_frame(value):
        raise InvalidMine(None)
    for index, way in enumerate(value[1]):
        if not is_place_pair(way, value[0]):
            raise InvalidMine(index)
    return value


def has_mine_frame(value):
    """Tell whether a value is a mine, whatever the elements of its ways are."""
    if not isinstance(value, tuple) or len(value) != 4:
        return False
    places, ways, inlet, outlet = value
    if not is_integer_within(places, 2, MOST_PLACES):
        return False
    if not isinstance(ways, tuple) or not 1 <= len(ways) <= MOST_WAYS:
        return False
    return is_place_pair((inlet, outlet), places)


def is_place_pair(value, places):
    """Tell whether a value is a pair of two different places, where there are so many places."""
    if not isinstance(value, tuple) or len(value) != 2:
        return False
    first, second = value
    if not is_integer_within(first, 0, places - 1) or not is_integer_within(second, 0, places - 1):
        return False
    return first != second


def is_integer_within(value, least, most):
    """Tell whether a value is an integer, and no boolean, from least to most."""
    if not isinstance(value, int) or isinstance(value, bool):
        return False
    return least <= value <= most


def are_integers_within(value, many, least, most):
    """Tell whether a value is a tuple of so many integers from least to most."""
    if not isinstance(value, tuple) or len(value) != many:
        return False
    return all([is_integer_within(number, least, most) for number in value])


def is_rising(value, most):
    """Tell whether a value is a strictly ascending tuple of integers from 0 to most."""
    if not isinstance(value, tuple):
        return False
    least = 0
    for number in value:
        if not is_integer_within(number, least, most):
            return False
        least = number + 1
    return True


def is_place(mine, value):
    """Tell whether a value is a place of the mine."""
    return is_integer_within(value, 0, mine[0] - 1)


def is_way_number(mine, value):
    """Tell whether a value is the number of a way of the mine."""
    return is_integer_within(value, 0, len(mine[1]) - 1)


def is_inner_place(mine, value):
    """Tell whether a value is an inner place of the mine."""
    return is_place(mine, value) and value not in mine[2:]


def inner_places(mine):
    """Return the ascending tuple of the places that are neither inlet nor outlet."""
    places, _, inlet, outlet = mine
    return tuple([x for x in range(places) if x not in (inlet, outlet)])


def is_joined(mine):
    """Tell whether every place can be reached from the inlet along ways, in any direction."""
    return len(reached_places(mine)) == mine[0]


def reached_places(mine):
    """Return the ascending tuple of the places that can be reached from the inlet along ways, the inlet included."""
    return reached_from(mine, mine[2:3])


def reached_from(mine, starts):
    """Return the ascending tuple of the places that can be reached from some places along ways, these included."""
    reached = list(starts)
    tried = 0
    while tried < len(reached):
        for z in near_places(mine, reached[tried]):
            if z not in reached:
                reached.append(z)
        tried += 1
    return tuple(sorted(reached))


def near_places(mine, x):
    """Return the ascending tuple of the places to which a way leads from place x."""
    return tuple(sorted({far_end(mine, w, x) for w in ways_at(mine, x)}))


def ways_at(mine, x):
    """Return the ascending tuple of the numbers of the ways with place x as an end."""
    return tuple([w for w, way in enumerate(mine[1]) if x in way])


def far_end(mine, w, x):
    """Return the end of way w that is not its end x."""
    first, second = mine[1][w]
    return second if x == first else first
