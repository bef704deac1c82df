"""Papers about looks: plans, which settle a goal with few looks, and foes, which leave it open in spite of them."""

from windways.cases import state_for, tree_for
from windways.facts import opposite_of
from windways.looks import ANSWERS, can_settle, facts_after, settles_first
from windways.sures import facts_of_sign, signs_left


def plan_for(mine, facts, looks, goal, many):
    """Return a plan with at most so many looks on each path, where there is one."""
    signs = signs_left(mine, facts, goal[0], goal[1])
    if not signs:
        return ("none", tree_for(mine, facts))
    if len(signs) == 1:
        sure = facts_of_sign(goal[0], goal[1], signs[0])
        return ("sure", signs[0], tuple([tree_for(mine, facts + (opposite_of(fact),)) for fact in sure]))
    k = first_look(mine, facts, looks, goal, many)
    after = [facts_after(facts, looks[k], answer) for answer in ANSWERS]
    up, down, level = [plan_for(mine, more, looks, goal, many - 1) for more in after]
    return (k, up, down, level)


def first_look(mine, facts, looks, goal, many):
    """Return the index of a look with which a plan for so many looks can begin."""
    for k, look in enumerate(looks):
        if settles_first(mine, facts, looks, goal, many, look):
            return k
    return None


def foe_for(mine, facts, looks, goal, many):
    """Return a foe for so many looks, where they do not settle the goal."""
    if many == 0:
        one, two = signs_left(mine, facts, goal[0], goal[1])[:2]
        return (state_with_sign(mine, facts, goal, one), state_with_sign(mine, facts, goal, two))
    return tuple([foe_entry(mine, facts, looks, goal, many, look) for look in looks])


def state_with_sign(mine, facts, goal, sign):
    """Return a state that fits the facts and at which the goal has this sign."""
    return state_for(mine, facts_after(facts, goal, sign))


def foe_entry(mine, facts, looks, goal, many, look):
    """Return the entry (answer, state, foe) of a foe for a look, the first of so many looks."""
    for answer in ANSWERS:
        more = facts_after(facts, look, answer)
        if not can_settle(mine, more, looks, goal, many - 1):
            return (answer, state_for(mine, more), foe_for(mine, more, looks, goal, many - 1))
    return None
