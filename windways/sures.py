"""Stage 6: what is sure by some facts, and the pictures that are left."""

from windways.air import picture_of
from windways.cases import census_for, is_possible
from windways.facts import opposite_of
from windways.trees import states_in


def is_sure(mine, facts, fact):
    """Tell whether every state that fits the facts fits the fact, too."""
    return not is_possible(mine, facts + (opposite_of(fact),))


def facts_of_sign(x, y, sign):
    """Return the facts which say that this is the sign of the level of x minus the level of y."""
    if sign == 0:
        return ((x, y, 0), (y, x, 0))
    return ((x, y, 1),) if sign == 1 else ((y, x, 1),)


def facts_of_picture(mine, picture):
    """Return the facts of a picture for the ways of the mine."""
    facts = ()
    for (a, b), sign in zip(mine[1], picture):
        facts = facts + facts_of_sign(a, b, sign)
    return facts


def signs_left(mine, facts, x, y):
    """Return the ascending tuple of the signs of x and y at the states that fit the facts."""
    return tuple([sign for sign in (-1, 0, 1) if is_possible(mine, facts + facts_of_sign(x, y, sign))])


def sign_of(mine, facts, x, y):
    """Return the sign of x and y by facts that are possible, or None if it is not sure."""
    signs = signs_left(mine, facts, x, y)
    return signs[0] if len(signs) == 1 else None


def known_signs(mine, facts):
    """Return a tuple with the sign of the ends of each way by facts that are possible."""
    return tuple([sign_of(mine, facts, a, b) for a, b in mine[1]])


def pictures_of(mine, facts):
    """Return the ascending tuple of the pictures of all states that fit the facts."""
    states = states_in(census_for(mine, facts))
    return tuple(sorted([picture_of(mine, levels) for _, levels in states]))
