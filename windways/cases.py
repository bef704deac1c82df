"""Stage 5: trees of cases, which show that no state fits some facts, and states that fit them."""

from windways.balance import widths_for
from windways.facts import as_said, with_fan
from windways.search import Search
from windways.trees import MOST_CASES, is_case_form, is_leaf_form, is_right_leaf, said_with


def is_tree(mine, facts, tree):
    """Tell whether any value is a right tree for the facts, with at most 40 cases on each path."""
    return is_right_tree(mine, as_said(with_fan(mine, facts)), tree, MOST_CASES)


def is_right_tree(mine, said, tree, cases_left):
    """Tell whether any value is a right tree for the facts that were said, with so many cases on each path.

    The first leaf that is wrong ends it, in its form or otherwise, so that of a large tree little may be looked at.
    """
    if not is_case_form(mine, tree):
        return is_leaf_form(mine, tree, False) and is_right_leaf(mine, said, tree)
    if cases_left == 0:
        return False
    _, x, y, above, rest = tree
    if not is_right_tree(mine, said_with(said, (x, y, 1)), above, cases_left - 1):
        return False
    return is_right_tree(mine, said_with(said, (y, x, 0)), rest, cases_left - 1)


def tree_for(mine, facts):
    """Return a right tree for the facts, or None if some state fits them."""
    return Search(mine, False).tree(facts)


def census_for(mine, facts):
    """Return a right census for the facts: a tree with a leaf ("state", widths, levels) for each picture."""
    return Search(mine, True).tree(facts)


def state_for(mine, facts):
    """Return a state (widths, levels) that fits the facts, or None."""
    search = Search(mine, False)
    if search.tree(facts) is not None:
        return None
    return (widths_for(mine, search.found), search.found)


def is_possible(mine, facts):
    """Tell whether some state fits the facts."""
    return tree_for(mine, facts) is None
