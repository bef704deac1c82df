"""Stage 17: claims about amounts, and certificates that decide them."""

from windways.amountforms import is_amount_claim
from windways.amounts import lock_for, strong_state
from windways.bounds import sum_along, walk_for, weights_within
from windways.errors import InvalidClaim
from windways.plain import reductions_for
from windways.routes import routes_of
from windways.wider import effect_by


def paper_on_within(claim):
    """Return the verdict on a claim that a way is within others, and the paper: a lock or a state."""
    _, mine, w, others = claim
    lock = lock_for(mine, w, others)
    if lock is not None:
        return ("shown", lock)
    return ("broken", excess_state(mine, weights_within(mine, w, others)))


def paper_on_bound(claim):
    """Return the verdict on a claim that weights are a bound, and the paper: a walk or a state."""
    _, mine, weights = claim
    walk = walk_for(mine, weights)
    return ("broken", excess_state(mine, weights)) if walk is None else ("shown", walk)


def excess_state(mine, weights):
    """Return a state in which the weights' sum is above 0, where their sum along some route is.

    Along the route it is at least 1, and the amounts of its ways differ by no more than
    all the other air, a millionth of the least of them; so weights up to 99 change no sign.
    """
    for route in routes_of(mine):
        if sum_along(weights, route) > 0:
            return strong_state(mine, route)
    return None


def paper_on_effect(claim):
    """Return the verdict on a claim about the effect of a way on a way, and the paper: reductions."""
    _, mine, v, w, d = claim
    reductions = reductions_for(mine)
    return ("shown" if effect_by(mine, reductions, v, w) == d else "broken", reductions)


AMOUNT_PAPERS = {
    "within": paper_on_within,
    "bound": paper_on_bound,
    "effect": paper_on_effect,
}


def require_amount_claim(claim):
    """Return any value if it is a valid claim about amounts, otherwise raise InvalidClaim."""
    if not is_amount_claim(claim):
        raise InvalidClaim()
    return claim


def decide_amount(claim):
    """Return a certificate (verdict, claim, paper) with the true verdict on a valid claim about amounts."""
    require_amount_claim(claim)
    told = AMOUNT_PAPERS[claim[0]]
    verdict, paper = told(claim)
    return (verdict, claim, paper)
