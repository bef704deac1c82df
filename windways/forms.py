"""The forms of the papers of certificates, apart from trees and states: routes, reductions, plans, foes and breaks."""

from windways.mines import is_inner_place, is_integer_within, is_place, is_rising, is_way_number
from windways.trees import is_state_form, is_tree_form

LONGEST_ROUTE = 12
MOST_REDUCTIONS = 40
HIGHEST_JOINT = 60


def is_route_form(mine, value):
    """Tell whether any value has the form of a route."""
    if not isinstance(value, tuple) or len(value) > LONGEST_ROUTE:
        return False
    return all([is_way_number(mine, w) for w in value])


def are_reductions(mine, value):
    """Tell whether any value has the form of reductions."""
    if not isinstance(value, tuple) or len(value) > MOST_REDUCTIONS:
        return False
    return all([is_reduction_form(mine, reduction) for reduction in value])


def is_reduction_form(mine, value):
    """Tell whether any value has the form of a reduction, whether it can be done or not."""
    if not isinstance(value, tuple) or len(value) not in (2, 3):
        return False
    if len(value) == 2:
        return value[0] == "behind" and is_inner_place(mine, value[1])
    word, first, second = value
    if word == "beside":
        return is_rising((first, second), HIGHEST_JOINT)
    if word != "hung" or not is_place(mine, first) or not is_rising(second, mine[0] - 1):
        return False
    return len(second) > 0 and first not in second and all([is_inner_place(mine, x) for x in second])


def is_plan_form(mine, looks, value, looks_left):
    """Tell whether any value has the form of a plan with at most so many looks on each path."""
    if not isinstance(value, tuple):
        return False
    if len(value) == 2:
        return value[0] == "none" and is_tree_form(mine, value[1])
    if len(value) == 3:
        return value[0] == "sure" and is_sure_form(mine, value[1], value[2])
    if len(value) != 4 or looks_left == 0 or not is_integer_within(value[0], 0, len(looks) - 1):
        return False
    return all([is_plan_form(mine, looks, part, looks_left - 1) for part in value[1:]])


def is_sure_form(mine, d, trees):
    """Tell whether any values have the form of a sign and of the trees which show that it is sure."""
    if not is_integer_within(d, -1, 1) or not isinstance(trees, tuple):
        return False
    return len(trees) == (2 if d == 0 else 1) and are_tree_forms(mine, trees)


def are_tree_forms(mine, values):
    """Tell whether all values of a tuple have the form of a tree."""
    return all([is_tree_form(mine, value) for value in values])


def is_foe_form(mine, looks, value, many):
    """Tell whether any value has the form of a foe for so many looks."""
    if not isinstance(value, tuple):
        return False
    if many == 0:
        return len(value) == 2 and is_state_form(mine, value[0]) and is_state_form(mine, value[1])
    return len(value) == len(looks) and all([is_entry_form(mine, looks, entry, many) for entry in value])


def is_entry_form(mine, looks, value, many):
    """Tell whether any value has the form of an entry of a foe for so many looks, at least one."""
    if not isinstance(value, tuple) or len(value) != 3:
        return False
    answer, state, foe = value
    if not is_integer_within(answer, -1, 1) or not is_state_form(mine, state):
        return False
    return is_foe_form(mine, looks, foe, many - 1)


def is_break_form(mine, value):
    """Tell whether any value has the form of a break for a mine, in which doors may be shut."""
    if not isinstance(value, tuple) or len(value) not in (2, 4):
        return False
    if len(value) == 4:
        return value[0] == "turns" and is_turn_form(mine, value[1:])
    word, some = value
    if word != "apart" or not is_rising(some, mine[0] - 1):
        return False
    return mine[2] in some and mine[3] not in some


def is_turn_form(mine, value):
    """Tell whether any value has the form of a way with two routes."""
    if not isinstance(value, tuple) or len(value) != 3:
        return False
    w, one, two = value
    return is_way_number(mine, w) and is_route_form(mine, one) and is_route_form(mine, two)
