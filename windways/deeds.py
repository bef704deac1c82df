"""Deeds on a mine and its facts: to see a fact, to shut a way, to dig a way."""

from windways.cases import is_possible
from windways.errors import CannotDig, CannotShut, Impossible, InvalidFacts
from windways.facts import MOST_FACTS, is_fact
from windways.mines import MOST_WAYS, is_joined, is_place_pair, is_way_number
from windways.sures import sign_of

MOST_DEEDS = 60


def after_seeing(mine, facts, fact):
    """Return the mine and the facts after a fact, any value, is seen."""
    if not is_fact(mine, fact) or len(facts) >= MOST_FACTS:
        raise InvalidFacts(len(facts))
    if not is_possible(mine, facts + (fact,)):
        raise Impossible()
    return (mine, facts + (fact,))


def after_shutting(mine, facts, way):
    """Return the mine and the facts after a way, any value, is shut."""
    if not is_way_number(mine, way):
        raise CannotShut(way)
    places, ways, inlet, outlet = mine
    left = (places, ways[:way] + ways[way + 1:], inlet, outlet)
    if not is_joined(left):
        raise CannotShut(way)
    return (left, facts_kept(mine, facts, ways[way]))


def after_digging(mine, facts, pair):
    """Return the mine and the facts after a way is dug between a pair of places, any value."""
    places, ways, inlet, outlet = mine
    if not is_place_pair(pair, places) or len(ways) >= MOST_WAYS:
        raise CannotDig(pair)
    return ((places, ways + (pair,), inlet, outlet), facts_kept(mine, facts, pair))


def facts_kept(mine, facts, pair):
    """Return the facts that stay if the ways between two places change: all if these are surely equal, or none."""
    return facts if sign_of(mine, facts, pair[0], pair[1]) == 0 else ()


DEEDS = {
    "see": after_seeing,
    "shut": after_shutting,
    "dig": after_digging,
}


def are_deeds(value):
    """Tell whether any value is a tuple of at most 60 pairs that begin with the word of a deed."""
    if not isinstance(value, tuple) or len(value) > MOST_DEEDS:
        return False
    return all([is_deed_form(deed) for deed in value])


def is_deed_form(value):
    """Tell whether any value is a pair that begins with the word of a deed."""
    if not isinstance(value, tuple) or len(value) != 2:
        return False
    return isinstance(value[0], str) and value[0] in DEEDS


def after_deed(state, deed):
    """Return the pair of the mine and the facts after a deed; raise its error if it cannot be done."""
    mine, facts = state
    word, told = deed
    action = DEEDS[word]
    return action(mine, facts, told)


def after_try(state, deed):
    """Return (state, None) after a deed, or (None, reason) with the name of the error's class."""
    try:
        return (after_deed(state, deed), None)
    except InvalidFacts:
        return (None, "InvalidFacts")
    except Impossible:
        return (None, "Impossible")
    except CannotShut:
        return (None, "CannotShut")
    except CannotDig:
        return (None, "CannotDig")
