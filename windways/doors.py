"""Stage 10: doors that make a mine plain, undrawn ways, and mines that are alike."""

from windways.cases import is_possible
from windways.errors import InvalidDoors
from windways.mines import is_integer_within
from windways.plain import reductions_for
from windways.sures import pictures_of

MOST_DOORS = 3
HIGHEST_PRICE = 99


def require_doors(mine, value):
    """Return the value if it is a tuple of doors of the mine, otherwise raise InvalidDoors."""
    if not isinstance(value, tuple) or len(value) > MOST_DOORS:
        raise InvalidDoors(None)
    before = []
    for index, door in enumerate(value):
        if not is_door(mine, door) or door[0] in before:
            raise InvalidDoors(index)
        before.append(door[0])
    return value


def is_door(mine, value):
    """Tell whether a value is a pair of the number of a way and a price."""
    if not isinstance(value, tuple) or len(value) != 2:
        return False
    return is_integer_within(value[0], 0, len(mine[1]) - 1) and is_integer_within(value[1], 0, HIGHEST_PRICE)


def choices_of(doors):
    """Yield all choices in their order: the cheapest first, those of the same price as tuples are sorted."""
    priced = [(price_of(doors, chosen), chosen) for chosen in ascending_tuples(len(doors))]
    for _, choice in sorted(priced):
        yield choice


def ascending_tuples(many):
    """Return the list of all strictly ascending tuples of integers from 0 to many - 1."""
    found = [()]
    for k in range(many):
        found = found + [chosen + (k,) for chosen in found]
    return found


def price_of(doors, choice):
    """Return the price of a choice."""
    return sum([doors[k][1] for k in choice])


def with_shut(mine, doors, choice):
    """Return the mine without the ways of the chosen doors."""
    places, ways, inlet, outlet = mine
    shut = [doors[k][0] for k in choice]
    return (places, tuple([way for w, way in enumerate(ways) if w not in shut]), inlet, outlet)


def first_choice(mine, doors):
    """Return the first choice that makes the mine plain, or None."""
    for choice in choices_of(doors):
        if reductions_for(with_shut(mine, doors, choice)) is not None:
            return choice
    return None


def place_pairs(mine):
    """Return the ascending list of the pairs (a, b) of places with a below b."""
    return [(a, b) for a in range(mine[0]) for b in range(a + 1, mine[0])]


def with_extra(mine, pair):
    """Return the mine with this pair of places appended as a way."""
    places, ways, inlet, outlet = mine
    return (places, ways + (pair,), inlet, outlet)


def undrawn_way(mine, facts):
    """Return the first pair such that the facts are possible with this extra way, or None."""
    for pair in place_pairs(mine):
        if is_possible(with_extra(mine, pair), facts):
            return pair
    return None


def are_alike(mine, other):
    """Tell whether two joined mines have the same number of ways and the same pictures."""
    return len(mine[1]) == len(other[1]) and pictures_of(mine, ()) == pictures_of(other, ())
