"""The conditions of papers: which part of a paper in the right form is not right. Nothing is searched for here."""

from windways.air import is_state, sign_between
from windways.facts import facts_fit, opposite_of
from windways.looks import ANSWERS, facts_after
from windways.plain import can_reduce
from windways.routes import is_route, side_in
from windways.sures import facts_of_sign
from windways.trees import path_to_fault

# The fault of a paper that does not have the form that its claim and verdict ask for.
PAPER = ("paper",)


def fault_at(word, path):
    """Return the fault that a path names, or None for no path."""
    return None if path is None else (word, path)


def state_fault(mine, facts, state):
    """Return the fault of a paper that is to be a state of the mine that fits the facts, or None."""
    widths, levels = state
    if not is_state(mine, widths, levels):
        return ("state",)
    return None if facts_fit(facts, levels) else ("facts",)


def tree_fault(mine, facts, tree):
    """Return the fault of a tree, or a census, that is to be right for the facts, or None."""
    return fault_at("tree", path_to_fault(mine, facts, tree))


def first_wrong_tree(mine_and_facts, trees):
    """Return the index of the first tree that is not right for its pair of a mine and facts, or None."""
    for index, tree in enumerate(trees):
        mine, facts = mine_and_facts[index]
        if path_to_fault(mine, facts, tree) is not None:
            return index
    return None


def reductions_fault(mine, reductions):
    """Return the fault of reductions that are to reduce the mine, or None."""
    index = can_reduce(mine, reductions)
    if index is None:
        return None
    return ("end",) if index == len(reductions) else ("step", index)


def uses(mine, route, w, side):
    """Tell whether some numbers of ways are a route that uses way w in the direction side, 1 or -1."""
    return is_route(mine, route) and side_in(mine, route, w) == side


def wrong_route(mine, turn):
    """Return 0 or 1, the first of the routes of a turn (w, one, two) that does not use w as it should, or None."""
    w, one, two = turn
    if not uses(mine, one, w, 1):
        return 0
    return None if uses(mine, two, w, -1) else 1


def is_break(mine, value):
    """Tell whether a paper in the form of a break is right for the mine, in which doors may be shut."""
    if value[0] == "turns":
        return wrong_route(mine, value[1:]) is None
    some = value[1]
    return all([(a in some) == (b in some) for a, b in mine[1]])


def plan_path(mine, facts, looks, goal, plan, looks_left):
    """Return the path of the first part of a plan that is not right with so many looks on each path, or None."""
    if plan[0] == "none":
        return None if path_to_fault(mine, facts, plan[1]) is None else ()
    if plan[0] == "sure":
        _, d, trees = plan
        cases = [(mine, facts + (opposite_of(fact),)) for fact in facts_of_sign(goal[0], goal[1], d)]
        return None if first_wrong_tree(cases, trees) is None else ()
    if looks_left == 0:
        return ()
    for answer, part in zip(ANSWERS, plan[1:]):
        path = plan_path(mine, facts_after(facts, looks[plan[0]], answer), looks, goal, part, looks_left - 1)
        if path is not None:
            return (answer,) + path
    return None


def foe_path(mine, facts, looks, goal, foe, many):
    """Return the path of the first part of a foe for so many looks that is not right, or None."""
    if many == 0:
        return None if is_open_pair(mine, facts, goal, foe) else ()
    for k, (answer, state, rest) in enumerate(foe):
        more = facts_after(facts, looks[k], answer)
        if state_fault(mine, more, state) is not None:
            return (k,)
        path = foe_path(mine, more, looks, goal, rest, many - 1)
        if path is not None:
            return (k,) + path
    return None


def is_open_pair(mine, facts, goal, states):
    """Tell whether two states fit the facts, and the places of the goal have different signs at them."""
    if any([state_fault(mine, facts, state) is not None for state in states]):
        return False
    one, two = [sign_between(levels, goal[0], goal[1]) for _, levels in states]
    return one != two
