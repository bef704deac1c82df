"""Stage 5: trees of cases, which show that no state fits some facts, and states that fit them."""

from windways.balance import widths_for
from windways.facts import as_said, is_ring_among, stuck_by, with_fan
from windways.mines import inner_places, is_place_pair, near_places
from windways.search import Search

MOST_CASES = 40
LONGEST_RING = 60


def is_tree(mine, facts, tree):
    """Tell whether any value is a right tree for the facts, with at most 40 cases on each path."""
    return is_right_tree(mine, as_said(with_fan(mine, facts)), tree, MOST_CASES)


def is_right_tree(mine, said, tree, cases_left):
    """Tell whether any value is a right tree for the facts that were said, with so many cases on each path."""
    if not isinstance(tree, tuple) or len(tree) not in (2, 5):
        return False
    if len(tree) == 2:
        return is_right_leaf(mine, said, tree)
    word, x, y, above, rest = tree
    if word != "case" or cases_left == 0 or not is_place_pair((x, y), mine[0]):
        return False
    if not is_right_tree(mine, as_said(list(said) + [(x, y, 1)]), above, cases_left - 1):
        return False
    return is_right_tree(mine, as_said(list(said) + [(y, x, 0)]), rest, cases_left - 1)


def is_right_leaf(mine, said, leaf):
    """Tell whether a pair is a ring of facts that were said, or a place that is stuck by them."""
    word, told = leaf
    if word == "ring":
        return isinstance(told, tuple) and len(told) <= LONGEST_RING and is_ring_among(mine, said, told)
    if word != "stuck" or not is_inner_place(mine, told):
        return False
    return stuck_by(said, told, near_places(mine, told)) is not None


def is_inner_place(mine, value):
    """Tell whether any value is an inner place of the mine."""
    return not isinstance(value, bool) and value in inner_places(mine)


def tree_for(mine, facts):
    """Return a right tree for the facts, or None if some state fits them."""
    return Search(mine, False).tree(facts)


def census_for(mine, facts):
    """Return a right census for the facts: a tree with a leaf ("state", widths, levels) for each picture."""
    return Search(mine, True).tree(facts)


def states_in(census):
    """Return the list of the states (widths, levels) at the leaves of a census."""
    if census[0] == "case":
        return states_in(census[3]) + states_in(census[4])
    return [census[1:]] if census[0] == "state" else []


def state_for(mine, facts):
    """Return a state (widths, levels) that fits the facts, or None."""
    search = Search(mine, False)
    if search.tree(facts) is not None:
        return None
    return (widths_for(mine, search.found), search.found)


def is_possible(mine, facts):
    """Tell whether some state fits the facts."""
    return tree_for(mine, facts) is None
