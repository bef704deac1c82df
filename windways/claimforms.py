"""The form of claims: which values are valid claims."""

from windways.doors import require_doors
from windways.errors import InvalidDoors, InvalidFacts, InvalidMine
from windways.facts import is_fact, require_facts
from windways.mines import is_integer_within, is_joined, is_place_pair, is_rising, is_way_number, require_mine

HIGHEST_COUNT = 200
MOST_LOOKS = 2
FEW_WAYS = 10


def is_joined_mine(value):
    """Tell whether any value is a mine that is joined."""
    try:
        require_mine(value)
    except InvalidMine:
        return False
    return is_joined(value)


def has_few_ways(mine):
    """Tell whether a mine has at most 10 ways."""
    return len(mine[1]) <= FEW_WAYS


def are_facts(mine, value):
    """Tell whether any value is a tuple of facts about places of the mine."""
    try:
        require_facts(mine, value)
    except InvalidFacts:
        return False
    return True


def are_doors(mine, value):
    """Tell whether any value is a tuple of doors of the mine."""
    try:
        require_doors(mine, value)
    except InvalidDoors:
        return False
    return True


def are_looks(mine, value):
    """Tell whether any value is a tuple of looks at places of the mine."""
    if not isinstance(value, tuple) or len(value) > MOST_LOOKS:
        return False
    return all([is_place_pair(look, mine[0]) for look in value])


def is_choice(doors, value):
    """Tell whether any value is a strictly ascending tuple of indices of doors."""
    return is_rising(value, len(doors) - 1)


def is_rising_pair(mine, value):
    """Tell whether any value is a pair (a, b) of places with a below b."""
    return is_place_pair(value, mine[0]) and value[0] < value[1]


def fits_can(mine, parts):
    """Tell whether the parts behind a joined mine make the claim valid."""
    return len(parts) == 1 and are_facts(mine, parts[0])


def fits_sure(mine, parts):
    """Tell whether the parts behind a joined mine make the claim valid."""
    return len(parts) == 2 and are_facts(mine, parts[0]) and is_fact(mine, parts[1])


def fits_count(mine, parts):
    """Tell whether the parts behind a joined mine make the claim valid."""
    if len(parts) != 2 or not has_few_ways(mine):
        return False
    return are_facts(mine, parts[0]) and is_integer_within(parts[1], 0, HIGHEST_COUNT)


def fits_way(mine, parts):
    """Tell whether the parts behind a joined mine make the claim valid."""
    if len(parts) != 2 or not is_way_number(mine, parts[0]):
        return False
    return is_integer_within(parts[1], -1, 1) and parts[1] != 0


def fits_plain(mine, parts):
    """Tell whether the parts behind a joined mine make the claim valid."""
    return len(parts) == 0


def fits_looks(mine, parts):
    """Tell whether the parts behind a joined mine make the claim valid."""
    if len(parts) != 4 or not has_few_ways(mine):
        return False
    facts, looks, goal, n = parts
    if not are_facts(mine, facts) or not are_looks(mine, looks) or not is_place_pair(goal, mine[0]):
        return False
    return n is None or is_integer_within(n, 0, len(looks))


def fits_doors(mine, parts):
    """Tell whether the parts behind a joined mine make the claim valid."""
    if len(parts) != 2 or not are_doors(mine, parts[0]):
        return False
    return parts[1] is None or is_choice(parts[0], parts[1])


def fits_undrawn(mine, parts):
    """Tell whether the parts behind a joined mine make the claim valid."""
    if len(parts) != 2 or not has_few_ways(mine):
        return False
    return are_facts(mine, parts[0]) and (parts[1] is None or is_rising_pair(mine, parts[1]))


def fits_alike(mine, parts):
    """Tell whether the parts behind a joined mine make the claim valid."""
    if len(parts) != 1 or not has_few_ways(mine) or not is_joined_mine(parts[0]):
        return False
    return len(parts[0][1]) == len(mine[1])


FORMS = {
    "can": fits_can,
    "sure": fits_sure,
    "count": fits_count,
    "way": fits_way,
    "plain": fits_plain,
    "looks": fits_looks,
    "doors": fits_doors,
    "undrawn": fits_undrawn,
    "alike": fits_alike,
}


def is_claim(value):
    """Tell whether any value is a valid claim."""
    if not isinstance(value, tuple) or len(value) < 2:
        return False
    kind, mine = value[:2]
    if not isinstance(kind, str) or kind not in FORMS or not is_joined_mine(mine):
        return False
    fits = FORMS[kind]
    return fits(mine, value[2:])
