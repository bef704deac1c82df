"""Stage 11: the checker, which takes or refuses certificates. It follows the paper and searches nothing.

For each kind of claim and each verdict a function takes the claim and the paper, any
value, and returns the first fault or None. Each looks at the whole form of the paper
before it looks at any condition.
"""

from windways.air import picture_of
from windways.claimforms import is_choice, is_claim, is_rising_pair
from windways.doors import choices_of, place_pairs, with_extra, with_shut
from windways.facts import opposite_of
from windways.faults import (
    PAPER, fault_at, first_wrong_tree, foe_path, is_break, plan_path, reductions_fault, state_fault, tree_fault, uses,
    wrong_route,
)
from windways.forms import (
    are_reductions, are_tree_forms, is_break_form, is_foe_form, is_plan_form, is_route_form, is_turn_form,
)
from windways.mines import is_integer_within
from windways.sures import facts_of_picture, facts_of_sign
from windways.trees import is_census_form, is_state_form, is_tree_form, states_in

MOST_LOOKS_ON_PATH = 2


def fault_of_state(mine, facts, paper):
    """Return the first fault of a paper that is to be a state that fits the facts, or None."""
    return state_fault(mine, facts, paper) if is_state_form(mine, paper) else PAPER


def fault_of_tree(mine, facts, paper):
    """Return the first fault of a paper that is to be a tree that is right for the facts, or None."""
    return tree_fault(mine, facts, paper) if is_tree_form(mine, paper) else PAPER


def shown_can(claim, paper):
    """Return the first fault of a state at which the facts hold, or None."""
    _, mine, facts = claim
    return fault_of_state(mine, facts, paper)


def broken_can(claim, paper):
    """Return the first fault of a tree which shows that no state fits the facts, or None."""
    _, mine, facts = claim
    return fault_of_tree(mine, facts, paper)


def shown_sure(claim, paper):
    """Return the first fault of a tree which shows that the opposite of the fact is not possible, or None."""
    _, mine, facts, fact = claim
    return fault_of_tree(mine, facts + (opposite_of(fact),), paper)


def broken_sure(claim, paper):
    """Return the first fault of a state at which the opposite of the fact holds, or None."""
    _, mine, facts, fact = claim
    return fault_of_state(mine, facts + (opposite_of(fact),), paper)


def shown_count(claim, paper):
    """Return the first fault of a census with n different pictures, or None."""
    return fault_of_census(claim, paper, True)


def broken_count(claim, paper):
    """Return the first fault of a census with another number of different pictures than n, or None."""
    return fault_of_census(claim, paper, False)


def fault_of_census(claim, paper, is_shown):
    """Return the first fault of a census that is to have n different pictures, or is not to have them, or None."""
    _, mine, facts, n = claim
    if not is_census_form(mine, paper):
        return PAPER
    wrong = tree_fault(mine, facts, paper)
    if wrong is not None:
        return wrong
    return None if (len(pictures_in(mine, paper)) == n) == is_shown else ("count",)


def pictures_in(mine, census):
    """Return the ascending list of the different pictures in a census."""
    return sorted({picture_of(mine, levels) for _, levels in states_in(census)})


def shown_way(claim, paper):
    """Return the first fault of a route that uses the way in the direction, or None."""
    _, mine, w, d = claim
    if not is_route_form(mine, paper):
        return PAPER
    return None if uses(mine, paper, w, d) else ("route",)


def broken_way(claim, paper):
    """Return the first fault of a tree which shows that the way carries no air in the direction, or None."""
    _, mine, w, d = claim
    a, b = mine[1][w]
    return fault_of_tree(mine, facts_of_sign(a, b, d), paper)


def shown_plain(claim, paper):
    """Return the first fault of reductions that reduce the mine, or None."""
    mine = claim[1]
    return reductions_fault(mine, paper) if are_reductions(mine, paper) else PAPER


def broken_plain(claim, paper):
    """Return the first fault of a way that turns, with its two routes, or None."""
    mine = claim[1]
    return fault_at("route", wrong_route(mine, paper)) if is_turn_form(mine, paper) else PAPER


def shown_looks(claim, paper):
    """Return the first fault of a plan for n looks and a foe for one less, or of a foe for all looks, or None."""
    _, mine, _, looks, _, n = claim
    if n is None:
        return fault_of_foe(claim, paper, len(looks))
    if not isinstance(paper, tuple) or len(paper) != 2:
        return PAPER
    plan, foe = paper
    if n == 0:
        return fault_of_plan(claim, plan, 0) if foe == () else PAPER
    if not is_foe_form(mine, looks, foe, n - 1):
        return PAPER
    wrong = fault_of_plan(claim, plan, n)
    return fault_of_foe(claim, foe, n - 1) if wrong is None else wrong


def broken_looks(claim, paper):
    """Return the first fault of ("fewer", plan) or ("more", foe), or None."""
    n = claim[5]
    if not isinstance(paper, tuple) or len(paper) != 2:
        return PAPER
    word, told = paper
    if word == "fewer" and n != 0:
        return fault_of_plan(claim, told, MOST_LOOKS_ON_PATH if n is None else n - 1)
    if word == "more" and n is not None:
        return fault_of_foe(claim, told, n)
    return PAPER


def fault_of_plan(claim, paper, many):
    """Return the first fault of a paper that is to be a plan with at most so many looks on each path, or None."""
    _, mine, facts, looks, goal, _ = claim
    if not is_plan_form(mine, looks, paper, MOST_LOOKS_ON_PATH):
        return PAPER
    return fault_at("plan", plan_path(mine, facts, looks, goal, paper, many))


def fault_of_foe(claim, paper, many):
    """Return the first fault of a paper that is to be a foe for so many looks, or None."""
    _, mine, facts, looks, goal, _ = claim
    if not is_foe_form(mine, looks, paper, many):
        return PAPER
    return fault_at("foe", foe_path(mine, facts, looks, goal, paper, many))


def shown_doors(claim, paper):
    """Return the first fault of reductions with the choice shut and of a break for each choice before, or None."""
    _, mine, doors, choice = claim
    order = list(choices_of(doors))
    if choice is None:
        return fault_of_breaks(mine, doors, order, paper)
    if not isinstance(paper, tuple) or len(paper) != 2:
        return PAPER
    reductions, breaks = paper
    shut = with_shut(mine, doors, choice)
    wrong_breaks = fault_of_breaks(mine, doors, order[:order.index(choice)], breaks)
    if wrong_breaks == PAPER or not are_reductions(shut, reductions):
        return PAPER
    wrong = reductions_fault(shut, reductions)
    return wrong_breaks if wrong is None else wrong


def fault_of_breaks(mine, doors, choices, paper):
    """Return the first fault of a paper that is to hold a break for each of some choices, or None."""
    if not isinstance(paper, tuple) or len(paper) != len(choices):
        return PAPER
    mines = [with_shut(mine, doors, choice) for choice in choices]
    if not all([is_break_form(shut, value) for shut, value in zip(mines, paper)]):
        return PAPER
    for c, value in enumerate(paper):
        if not is_break(mines[c], value):
            return ("break", c)
    return None


def broken_doors(claim, paper):
    """Return the first fault of ("not", break) or ("ahead", other, reductions), or None."""
    _, mine, doors, choice = claim
    if not isinstance(paper, tuple) or len(paper) not in (2, 3):
        return PAPER
    if len(paper) == 2:
        is_not = paper[0] == "not" and choice is not None
        return fault_of_breaks(mine, doors, [choice], paper[1:]) if is_not else PAPER
    word, other, reductions = paper
    if word != "ahead" or not is_choice(doors, other):
        return PAPER
    shut = with_shut(mine, doors, other)
    if not are_reductions(shut, reductions):
        return PAPER
    order = list(choices_of(doors))
    if choice is not None and order.index(other) >= order.index(choice):
        return ("ahead",)
    return reductions_fault(shut, reductions)


def shown_undrawn(claim, paper):
    """Return the first fault of a state with the extra way and of a tree for each pair before, or None."""
    _, mine, facts, pair = claim
    order = place_pairs(mine)
    if pair is None:
        return fault_of_pairs(mine, facts, order, paper)
    if not isinstance(paper, tuple) or len(paper) != 2:
        return PAPER
    state, trees = paper
    extra = with_extra(mine, pair)
    wrong_pairs = fault_of_pairs(mine, facts, order[:order.index(pair)], trees)
    if wrong_pairs == PAPER or not is_state_form(extra, state):
        return PAPER
    wrong = state_fault(extra, facts, state)
    return wrong_pairs if wrong is None else wrong


def fault_of_pairs(mine, facts, pairs, paper):
    """Return the first fault of a paper that is to hold a right tree for each of some extra ways, or None."""
    if not isinstance(paper, tuple) or len(paper) != len(pairs) or not are_tree_forms(mine, paper):
        return PAPER
    return fault_at("pair", first_wrong_tree([(with_extra(mine, pair), facts) for pair in pairs], paper))


def broken_undrawn(claim, paper):
    """Return the first fault of ("not", tree) or ("ahead", pair, state), or None."""
    _, mine, facts, pair = claim
    if not isinstance(paper, tuple) or len(paper) not in (2, 3):
        return PAPER
    if len(paper) == 2:
        is_not = paper[0] == "not" and pair is not None
        return fault_of_tree(with_extra(mine, pair), facts, paper[1]) if is_not else PAPER
    word, other, state = paper
    if word != "ahead" or not is_rising_pair(mine, other) or not is_state_form(with_extra(mine, other), state):
        return PAPER
    if pair is not None and other >= pair:
        return ("ahead",)
    return state_fault(with_extra(mine, other), facts, state)


def shown_alike(claim, paper):
    """Return the first fault of two censuses with the same pictures, or None."""
    mines = claim[1:]
    if not isinstance(paper, tuple) or len(paper) != 2:
        return PAPER
    if not is_census_form(mines[0], paper[0]) or not is_census_form(mines[1], paper[1]):
        return PAPER
    wrong = first_wrong_tree([(mine, ()) for mine in mines], paper)
    if wrong is not None:
        return ("census", wrong)
    return None if pictures_in(mines[0], paper[0]) == pictures_in(mines[1], paper[1]) else ("pictures",)


def broken_alike(claim, paper):
    """Return the first fault of a state of one mine and a tree which shows that no state of the other is like it."""
    if not isinstance(paper, tuple) or len(paper) != 3 or not is_integer_within(paper[0], 0, 1):
        return PAPER
    k, state, tree = paper
    mine = claim[1 + k]
    other = claim[2 - k]
    if not is_state_form(mine, state) or not is_tree_form(other, tree):
        return PAPER
    wrong = state_fault(mine, (), state)
    if wrong is not None:
        return wrong
    return tree_fault(other, facts_of_picture(other, picture_of(mine, state[1])), tree)


SHOWN = {
    "can": shown_can,
    "sure": shown_sure,
    "count": shown_count,
    "way": shown_way,
    "plain": shown_plain,
    "looks": shown_looks,
    "doors": shown_doors,
    "undrawn": shown_undrawn,
    "alike": shown_alike,
}
BROKEN = {
    "can": broken_can,
    "sure": broken_sure,
    "count": broken_count,
    "way": broken_way,
    "plain": broken_plain,
    "looks": broken_looks,
    "doors": broken_doors,
    "undrawn": broken_undrawn,
    "alike": broken_alike,
}


def first_fault(certificate):
    """Return the first fault of any value as a certificate, or None if it is right."""
    if not isinstance(certificate, tuple) or len(certificate) != 3:
        return ("form",)
    verdict, claim, paper = certificate
    if not is_claim(claim):
        return ("claim",)
    if verdict == "shown":
        told = SHOWN[claim[0]]
        return told(claim, paper)
    if verdict == "broken":
        told = BROKEN[claim[0]]
        return told(claim, paper)
    return PAPER
