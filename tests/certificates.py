"""The table of point 21, row by row: the first fault of a certificate."""

from tests.told import (
    are_reductions_form, census_pictures, extra, foe_fault, is_break_form, is_claim, is_foe_form, is_int, is_plan_form,
    is_right_break, is_rising, is_route_form, is_state_form, is_tree_form, is_tuple, opposite,
    picture, plan_fault, rising_pairs, shut, sign_facts, state_fault, told_choices, told_side, told_steps, tree_fault,
)

PAPER = ("paper",)


def certificate_fault(certificate):
    """The first fault of a certificate, or None."""
    if not is_tuple(certificate, 3):
        return ("form",)
    verdict, claim, paper = certificate
    if not is_claim(claim):
        return ("claim",)
    if type(verdict) is not str or verdict not in ("shown", "broken"):
        return PAPER
    return ROWS[claim[0]](verdict == "shown", claim, paper)


def named(word, path):
    return None if path is None else (word, path)


def on_state(mine, facts, paper):
    return state_fault(mine, facts, paper) if is_state_form(mine, paper) else PAPER


def on_tree(mine, facts, paper):
    return named("tree", tree_fault(mine, facts, paper)) if is_tree_form(mine, paper) else PAPER


def on_can(shown, claim, paper):
    _, mine, facts = claim
    return on_state(mine, facts, paper) if shown else on_tree(mine, facts, paper)


def on_sure(shown, claim, paper):
    _, mine, facts, fact = claim
    more = facts + (opposite(fact),)
    return on_tree(mine, more, paper) if shown else on_state(mine, more, paper)


def on_count(shown, claim, paper):
    _, mine, facts, n = claim
    if not is_tree_form(mine, paper, True):
        return PAPER
    wrong = tree_fault(mine, facts, paper, True)
    if wrong is not None:
        return ("tree", wrong)
    return None if (len(census_pictures(mine, paper)) == n) == shown else ("count",)


def on_way(shown, claim, paper):
    _, mine, w, d = claim
    if not shown:
        return on_tree(mine, sign_facts(*mine[1][w], d), paper)
    if not is_route_form(mine, paper):
        return PAPER
    return None if told_side(mine, paper, w) == d else ("route",)


def on_plain(shown, claim, paper):
    mine = claim[1]
    if shown:
        return told_steps(mine, paper) if are_reductions_form(mine, paper) else PAPER
    if not is_tuple(paper, 3) or not is_break_form(mine, ("turns",) + paper):
        return PAPER
    w, one, two = paper
    if told_side(mine, one, w) != 1:
        return ("route", 0)
    return None if told_side(mine, two, w) == -1 else ("route", 1)


def on_looks(shown, claim, paper):
    _, mine, facts, looks, goal, n = claim
    if shown and n is None:
        if not is_foe_form(mine, looks, paper, len(looks)):
            return PAPER
        return named("foe", foe_fault(mine, facts, looks, goal, paper, len(looks)))
    if not is_tuple(paper, 2):
        return PAPER
    if shown:
        return on_number(claim, paper)
    if paper[0] == "fewer" and n != 0 and is_plan_form(mine, looks, paper[1]):
        return named("plan", plan_fault(mine, facts, looks, goal, paper[1], 2 if n is None else n - 1))
    if paper[0] == "more" and n is not None and is_foe_form(mine, looks, paper[1], n):
        return named("foe", foe_fault(mine, facts, looks, goal, paper[1], n))
    return PAPER


def on_number(claim, paper):
    _, mine, facts, looks, goal, n = claim
    plan, foe = paper
    if not is_plan_form(mine, looks, plan) or not (is_foe_form(mine, looks, foe, n - 1) if n > 0 else foe == ()):
        return PAPER
    wrong = plan_fault(mine, facts, looks, goal, plan, n)
    if wrong is not None:
        return ("plan", wrong)
    return named("foe", foe_fault(mine, facts, looks, goal, foe, n - 1)) if n > 0 else None


def on_doors(shown, claim, paper):
    _, mine, doors, choice = claim
    order = told_choices(doors)
    if shown and choice is None:
        return on_breaks(mine, doors, order, paper)
    if shown:
        if not is_tuple(paper, 2) or not are_reductions_form(shut(mine, doors, choice), paper[0]):
            return PAPER
        breaks = on_breaks(mine, doors, order[:order.index(choice)], paper[1])
        if breaks == PAPER:
            return PAPER
        return told_steps(shut(mine, doors, choice), paper[0]) or breaks
    if is_tuple(paper, 2) and paper[0] == "not" and choice is not None:
        closed = shut(mine, doors, choice)
        if not is_break_form(closed, paper[1]):
            return PAPER
        return None if is_right_break(closed, paper[1]) else ("break", 0)
    if not is_tuple(paper, 3) or paper[0] != "ahead" or not is_rising(paper[1], range(len(doors))):
        return PAPER
    if not are_reductions_form(shut(mine, doors, paper[1]), paper[2]):
        return PAPER
    if choice is not None and order.index(paper[1]) >= order.index(choice):
        return ("ahead",)
    return told_steps(shut(mine, doors, paper[1]), paper[2])


def on_breaks(mine, doors, choices, paper):
    closed = [shut(mine, doors, choice) for choice in choices]
    if not is_tuple(paper, len(closed)) or not all(is_break_form(one, part) for one, part in zip(closed, paper)):
        return PAPER
    for c, (one, part) in enumerate(zip(closed, paper)):
        if not is_right_break(one, part):
            return ("break", c)
    return None


def on_undrawn(shown, claim, paper):
    _, mine, facts, pair = claim
    order = rising_pairs(mine)
    if shown and pair is None:
        return on_trees(mine, facts, order, paper)
    if shown:
        if not is_tuple(paper, 2) or not is_state_form(extra(mine, pair), paper[0]):
            return PAPER
        trees = on_trees(mine, facts, order[:order.index(pair)], paper[1])
        return PAPER if trees == PAPER else state_fault(extra(mine, pair), facts, paper[0]) or trees
    if is_tuple(paper, 2) and paper[0] == "not" and pair is not None:
        return on_tree(extra(mine, pair), facts, paper[1])
    if not is_tuple(paper, 3) or paper[0] != "ahead" or paper[1] not in order or not is_rising(paper[1], range(8)):
        return PAPER
    if not is_state_form(extra(mine, paper[1]), paper[2]):
        return PAPER
    if pair is not None and order.index(paper[1]) >= order.index(pair):
        return ("ahead",)
    return state_fault(extra(mine, paper[1]), facts, paper[2])


def on_trees(mine, facts, pairs, paper):
    if not is_tuple(paper, len(pairs)) or not all(is_tree_form(mine, tree) for tree in paper):
        return PAPER
    for c, (pair, tree) in enumerate(zip(pairs, paper)):
        if tree_fault(extra(mine, pair), facts, tree) is not None:
            return ("pair", c)
    return None


def on_alike(shown, claim, paper):
    mines = claim[1:]
    if shown:
        if not is_tuple(paper, 2) or not all(is_tree_form(mine, part, True) for mine, part in zip(mines, paper)):
            return PAPER
        for k in (0, 1):
            if tree_fault(mines[k], (), paper[k], True) is not None:
                return ("census", k)
        same = census_pictures(mines[0], paper[0]) == census_pictures(mines[1], paper[1])
        return None if same else ("pictures",)
    if not is_tuple(paper, 3) or not is_int(paper[0]) or paper[0] not in (0, 1):
        return PAPER
    k, state, tree = paper
    other = mines[1 - k]
    if not is_state_form(mines[k], state) or not is_tree_form(other, tree):
        return PAPER
    if state_fault(mines[k], (), state) is not None:
        return ("state",)
    facts = ()
    for (a, b), side in zip(other[1], picture(mines[k], state[1]), strict=True):
        facts += sign_facts(a, b, side)
    return named("tree", tree_fault(other, facts, tree))


ROWS = {
    "can": on_can,
    "sure": on_sure,
    "count": on_count,
    "way": on_way,
    "plain": on_plain,
    "looks": on_looks,
    "doors": on_doors,
    "undrawn": on_undrawn,
    "alike": on_alike,
}
