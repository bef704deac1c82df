"""Trees and censuses as papers hold them: their form, the part of one that is not right, and the states in a census."""

from windways.air import is_state
from windways.facts import as_said, facts_fit, is_fact, is_ring_among, stuck_by, with_fan
from windways.mines import are_integers_within, is_inner_place, is_place_pair, near_places

LARGEST = 10 ** 60
MOST_CASES = 40
LONGEST_RING = 60


def is_state_form(mine, value):
    """Tell whether any value has the form of a state of the mine."""
    if not isinstance(value, tuple) or len(value) != 2:
        return False
    widths, levels = value
    if not are_integers_within(widths, len(mine[1]), 1, LARGEST):
        return False
    return are_integers_within(levels, mine[0], -LARGEST, LARGEST)


def is_tree_form(mine, value):
    """Tell whether any value has the form of a tree."""
    return has_tree_form(mine, value, False, MOST_CASES)


def is_census_form(mine, value):
    """Tell whether any value has the form of a census."""
    return has_tree_form(mine, value, True, MOST_CASES)


def has_tree_form(mine, value, takes_states, cases_left):
    """Tell whether any value has the form of a tree with at most so many cases on each path."""
    if not is_case_form(mine, value):
        return is_leaf_form(mine, value, takes_states)
    if cases_left == 0:
        return False
    _, _, _, above, rest = value
    if not has_tree_form(mine, above, takes_states, cases_left - 1):
        return False
    return has_tree_form(mine, rest, takes_states, cases_left - 1)


def is_case_form(mine, value):
    """Tell whether any value has the form of a case, whatever its two parts are."""
    if not isinstance(value, tuple) or len(value) != 5:
        return False
    return value[0] == "case" and is_place_pair(value[1:3], mine[0])


def is_leaf_form(mine, value, takes_states):
    """Tell whether any value has the form of a leaf of a tree, or of a census if that takes states."""
    if not isinstance(value, tuple) or len(value) not in (2, 3):
        return False
    if len(value) == 3:
        return takes_states and value[0] == "state" and is_state_form(mine, value[1:])
    word, told = value
    if word == "stuck":
        return is_inner_place(mine, told)
    if word != "ring" or not isinstance(told, tuple) or len(told) > LONGEST_RING:
        return False
    return all([is_fact(mine, fact) for fact in told])


def path_to_fault(mine, facts, tree):
    """Return the path of the first part of a tree, or a census, that is not right for the facts, or None."""
    return path_on(mine, as_said(with_fan(mine, facts)), tree, ())


def path_on(mine, said, tree, path):
    """Return the path of the first part that is not right for the facts that were said, or None."""
    if tree[0] != "case":
        return None if is_right_leaf(mine, said, tree) else path
    _, x, y, above, rest = tree
    wrong = path_on(mine, said_with(said, (x, y, 1)), above, path + ("above",))
    if wrong is not None:
        return wrong
    return path_on(mine, said_with(said, (y, x, 0)), rest, path + ("rest",))


def said_with(said, fact):
    """Return what was said with one more fact."""
    return as_said(list(said) + [fact])


def is_right_leaf(mine, said, leaf):
    """Tell whether a leaf is right for the facts that were said."""
    if leaf[0] == "ring":
        return is_ring_among(mine, said, leaf[1])
    if leaf[0] == "stuck":
        return stuck_by(said, leaf[1], near_places(mine, leaf[1])) is not None
    _, widths, levels = leaf
    if not is_state(mine, widths, levels) or not facts_fit(list(said), levels):
        return False
    return all([is_sign_said(said, a, b) for a, b in mine[1]])


def is_sign_said(said, x, y):
    """Tell whether the facts that were said tell by name which of x and y is above the other, or that none is."""
    if (x, y, 1) in said or (y, x, 1) in said:
        return True
    return (x, y, 0) in said and (y, x, 0) in said


def states_in(census):
    """Return the list of the states (widths, levels) at the leaves of a census."""
    if census[0] == "case":
        return states_in(census[3]) + states_in(census[4])
    return [census[1:]] if census[0] == "state" else []
