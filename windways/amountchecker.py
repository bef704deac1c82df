"""Stage 17: the checker of certificates about amounts. It follows the paper, like windways.checker."""

from windways.amountforms import is_amount_claim
from windways.amounts import amounts_of, can_lock, is_lock_form
from windways.bounds import is_walk_form, weights_within, wrong_begun
from windways.faults import PAPER, fault_at, reductions_fault, state_fault
from windways.forms import are_reductions
from windways.trees import is_state_form
from windways.wider import effect_by


def shown_within(claim, paper):
    """Return the first fault of a lock, or None."""
    _, mine, w, others = claim
    if not is_lock_form(mine, paper):
        return PAPER
    return None if can_lock(mine, w, others, paper) else ("lock",)


def broken_within(claim, paper):
    """Return the first fault of a state in which the way has more air than the others together, or None."""
    _, mine, w, others = claim
    return fault_of_excess(mine, weights_within(mine, w, others), paper)


def fault_of_excess(mine, weights, paper):
    """Return the first fault of a paper that is to be a state in which the weights' sum is above 0, or None."""
    if not is_state_form(mine, paper):
        return PAPER
    wrong = state_fault(mine, (), paper)
    if wrong is not None:
        return wrong
    amounts = amounts_of(mine, paper[0], paper[1])
    excess = sum([weight * amount for weight, amount in zip(weights, amounts)])
    return None if excess > 0 else ("sum",)


def shown_bound(claim, paper):
    """Return the first fault of a walk, or None."""
    _, mine, weights = claim
    if not is_walk_form(mine, (), paper):
        return PAPER
    return fault_at("walk", wrong_begun(mine, weights, (), paper))


def broken_bound(claim, paper):
    """Return the first fault of a state in which the weights' sum is above 0, or None."""
    _, mine, weights = claim
    return fault_of_excess(mine, weights, paper)


def shown_effect(claim, paper):
    """Return the first fault of reductions by which the effect is d, or None."""
    return fault_of_effect(claim, paper, True)


def broken_effect(claim, paper):
    """Return the first fault of reductions by which the effect is not d, or None."""
    return fault_of_effect(claim, paper, False)


def fault_of_effect(claim, paper, is_shown):
    """Return the first fault of reductions by which the effect is to be d, or not to be d, or None."""
    _, mine, v, w, d = claim
    if not are_reductions(mine, paper):
        return PAPER
    wrong = reductions_fault(mine, paper)
    if wrong is not None:
        return wrong
    return None if (effect_by(mine, paper, v, w) == d) == is_shown else ("effect",)


AMOUNT_SHOWN = {
    "within": shown_within,
    "bound": shown_bound,
    "effect": shown_effect,
}
AMOUNT_BROKEN = {
    "within": broken_within,
    "bound": broken_bound,
    "effect": broken_effect,
}


def first_amount_fault(certificate):
    """Return the first fault of any value as a certificate about amounts, or None if it is a right one."""
    if not isinstance(certificate, tuple) or len(certificate) != 3:
        return ("form",)
    verdict, claim, paper = certificate
    if not is_amount_claim(claim):
        return ("claim",)
    if verdict == "shown":
        told = AMOUNT_SHOWN[claim[0]]
        return told(claim, paper)
    if verdict == "broken":
        told = AMOUNT_BROKEN[claim[0]]
        return told(claim, paper)
    return PAPER
