"""The form of claims about amounts: which values are valid ones."""

from windways.claimforms import is_joined_mine
from windways.mines import are_integers_within, is_integer_within, is_rising, is_way_number
from windways.plain import is_plain

HIGHEST_WEIGHT = 99


def fits_within(mine, parts):
    """Tell whether the parts behind a joined mine make the claim valid."""
    if len(parts) != 2 or not is_way_number(mine, parts[0]):
        return False
    return is_rising(parts[1], len(mine[1]) - 1) and parts[0] not in parts[1]


def fits_bound(mine, parts):
    """Tell whether the parts behind a joined mine make the claim valid."""
    return len(parts) == 1 and are_integers_within(parts[0], len(mine[1]), -HIGHEST_WEIGHT, HIGHEST_WEIGHT)


def fits_effect(mine, parts):
    """Tell whether the parts behind a joined mine make the claim valid."""
    if len(parts) != 3 or not is_way_number(mine, parts[0]) or not is_way_number(mine, parts[1]):
        return False
    return is_integer_within(parts[2], -1, 1) and is_plain(mine)


AMOUNT_FORMS = {
    "within": fits_within,
    "bound": fits_bound,
    "effect": fits_effect,
}


def is_amount_claim(value):
    """Tell whether any value is a valid claim about amounts."""
    if not isinstance(value, tuple) or len(value) < 2:
        return False
    kind, mine = value[:2]
    if not isinstance(kind, str) or kind not in AMOUNT_FORMS or not is_joined_mine(mine):
        return False
    fits = AMOUNT_FORMS[kind]
    return fits(mine, value[2:])
