"""The papers of certificates: for each kind of claim, the true verdict on a valid claim, and a paper that shows it."""

from windways.air import picture_of
from windways.cases import census_for, state_for, tree_for
from windways.doors import choices_of, first_choice, place_pairs, undrawn_way, with_extra, with_shut
from windways.facts import opposite_of
from windways.looks import looks_needed
from windways.mines import reached_places
from windways.plain import reductions_for
from windways.plans import foe_for, plan_for
from windways.routes import route_using, routes_of, turning_ways
from windways.sures import facts_of_picture, facts_of_sign
from windways.trees import states_in


def paper_on_can(claim):
    """Return the verdict on a claim that facts are possible, and the paper: a state or a tree."""
    _, mine, facts = claim
    tree = tree_for(mine, facts)
    return ("shown", state_for(mine, facts)) if tree is None else ("broken", tree)


def paper_on_sure(claim):
    """Return the verdict on a claim that a fact is sure, and the paper: a tree or a state."""
    _, mine, facts, fact = claim
    others = facts + (opposite_of(fact),)
    tree = tree_for(mine, others)
    return ("broken", state_for(mine, others)) if tree is None else ("shown", tree)


def paper_on_count(claim):
    """Return the verdict on a claim that there are so many pictures, and the paper: a census."""
    _, mine, facts, n = claim
    census = census_for(mine, facts)
    # The cases of a census part the states by the signs of ways, so that no two of its leaves have the same picture.
    return ("shown" if len(states_in(census)) == n else "broken", census)


def paper_on_way(claim):
    """Return the verdict on a claim that a way can carry air in a direction, and the paper: a route or a tree."""
    _, mine, w, d = claim
    route = route_using(mine, w, d)
    if route is not None:
        return ("shown", route)
    a, b = mine[1][w]
    return ("broken", tree_for(mine, facts_of_sign(a, b, d)))


def paper_on_plain(claim):
    """Return the verdict on a claim that a mine is plain, and the paper: reductions or a turn."""
    mine = claim[1]
    reductions = reductions_for(mine)
    return ("broken", turn_of(mine)) if reductions is None else ("shown", reductions)


def turn_of(mine):
    """Return a way that turns, with a route that uses it forward and one that uses it back."""
    w = turning_ways(mine)[0]
    return (w, route_using(mine, w, 1), route_using(mine, w, -1))


def paper_on_looks(claim):
    """Return the verdict on a claim about the number of looks, and the paper: plans and foes."""
    _, mine, facts, looks, goal, n = claim
    number = looks_needed(mine, facts, looks, goal)
    if number is None:
        foe = foe_for(mine, facts, looks, goal, len(looks) if n is None else n)
        return ("shown", foe) if n is None else ("broken", ("more", foe))
    if n is not None and n < number:
        return ("broken", ("more", foe_for(mine, facts, looks, goal, n)))
    plan = plan_for(mine, facts, looks, goal, number)
    if n != number:
        return ("broken", ("fewer", plan))
    return ("shown", (plan, foe_for(mine, facts, looks, goal, n - 1) if n > 0 else ()))


def paper_on_doors(claim):
    """Return the verdict on a claim about the first choice of doors, and the paper: reductions and breaks."""
    _, mine, doors, choice = claim
    order = list(choices_of(doors))
    first = first_choice(mine, doors)
    if first == choice:
        before = order if choice is None else order[:order.index(choice)]
        breaks = tuple([break_for(with_shut(mine, doors, earlier)) for earlier in before])
        return ("shown", breaks if choice is None else (reductions_for(with_shut(mine, doors, choice)), breaks))
    if first is None or choice is not None and order.index(choice) < order.index(first):
        return ("broken", ("not", break_for(with_shut(mine, doors, choice))))
    return ("broken", ("ahead", first, reductions_for(with_shut(mine, doors, first))))


def break_for(mine):
    """Return a break for a mine, in which doors may be shut, that no reductions reduce."""
    if not routes_of(mine):
        return ("apart", reached_places(mine))
    return ("turns",) + turn_of(mine)


def paper_on_undrawn(claim):
    """Return the verdict on a claim about the undrawn way, and the paper: states and trees."""
    _, mine, facts, pair = claim
    order = place_pairs(mine)
    first = undrawn_way(mine, facts)
    if first == pair:
        before = order if pair is None else order[:order.index(pair)]
        trees = tuple([tree_for(with_extra(mine, earlier), facts) for earlier in before])
        return ("shown", trees if pair is None else (state_for(with_extra(mine, pair), facts), trees))
    if first is None or pair is not None and pair < first:
        return ("broken", ("not", tree_for(with_extra(mine, pair), facts)))
    return ("broken", ("ahead", first, state_for(with_extra(mine, first), facts)))


def paper_on_alike(claim):
    """Return the verdict on a claim that mines are alike, and the paper: censuses, or a state and a tree."""
    mines = claim[1:]
    censuses = tuple([census_for(mine, ()) for mine in mines])
    pictures = [[picture_of(mine, levels) for _, levels in states_in(census)] for mine, census in zip(mines, censuses)]
    for k in (0, 1):
        for state in states_in(censuses[k]):
            picture = picture_of(mines[k], state[1])
            if picture not in pictures[1 - k]:
                other = mines[1 - k]
                return ("broken", (k, state, tree_for(other, facts_of_picture(other, picture))))
    return ("shown", censuses)


PAPERS = {
    "can": paper_on_can,
    "sure": paper_on_sure,
    "count": paper_on_count,
    "way": paper_on_way,
    "plain": paper_on_plain,
    "looks": paper_on_looks,
    "doors": paper_on_doors,
    "undrawn": paper_on_undrawn,
    "alike": paper_on_alike,
}


def paper_on(claim):
    """Return the true verdict on a valid claim and a paper that shows it."""
    told = PAPERS[claim[0]]
    return told(claim)
