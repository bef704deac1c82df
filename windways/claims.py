"""Stage 11: claims, and certificates that decide them."""

from windways.claimforms import is_claim
from windways.errors import InvalidClaim
from windways.papers import paper_on


def require_claim(claim):
    """Return any value if it is a valid claim, otherwise raise InvalidClaim."""
    if not is_claim(claim):
        raise InvalidClaim()
    return claim


def decide(claim):
    """Return a certificate (verdict, claim, paper) with the true verdict on a valid claim."""
    require_claim(claim)
    verdict, paper = paper_on(claim)
    return (verdict, claim, paper)
