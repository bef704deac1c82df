"""Stage 4: facts about pressures, that is triples (x, y, s), their rings, and the places that are stuck by them."""

from windways.errors import InvalidFacts
from windways.mines import inner_places, is_integer_within, is_place_pair, near_places

MOST_FACTS = 12


def require_facts(mine, value):
    """Return the value if it is a tuple of facts about places of the mine, otherwise raise InvalidFacts."""
    if not isinstance(value, tuple) or len(value) > MOST_FACTS:
        raise InvalidFacts(None)
    for index, fact in enumerate(value):
        if not is_fact(mine, fact):
            raise InvalidFacts(index)
    return value


def is_fact(mine, value):
    """Tell whether a value is a fact about places of the mine."""
    if not isinstance(value, tuple) or len(value) != 3:
        return False
    return is_place_pair(value[:2], mine[0]) and is_integer_within(value[2], 0, 1)


def opposite_of(fact):
    """Return the fact that holds exactly where the given one does not."""
    x, y, s = fact
    return (y, x, 1 - s)


def facts_fit(facts, levels):
    """Tell whether all facts hold at the levels."""
    return all([levels[x] - levels[y] >= s for x, y, s in facts])


def with_fan(mine, facts):
    """Return the tuple of the fan's fact and the facts."""
    return ((mine[2], mine[3], 1),) + facts


def as_said(facts):
    """Return a dict with the facts as its keys."""
    return {fact: True for fact in facts}


def ring_of(mine, facts):
    """Return a ring of the facts and the fan's fact, or None."""
    said = with_fan(mine, facts)
    for fact in said:
        if fact[2] == 1:
            ring = ring_through(said, fact)
            if ring is not None:
                return ring
    return None


def ring_through(said, fact):
    """Return a shortest ring of the fact and of facts that were said, or None."""
    x, y, s = fact
    walk = walk_between(said, y, x, s == 0)
    return None if walk is None else (fact,) + walk


def walk_between(said, start, goal, needs_above):
    """Return the facts of a shortest walk from start to goal, one of them with s = 1 if that is needed, or None."""
    # A place counts twice: as reached with all that is needed, and as reached without it.
    first = (start, not needs_above)
    steps = {first: None}
    line = [first]
    tried = 0
    while tried < len(line) and (goal, True) not in steps:
        here = line[tried]
        tried += 1
        for fact in said:
            there = (fact[1], here[1] or fact[2] == 1)
            if fact[0] == here[0] and there not in steps:
                steps[there] = (here, fact)
                line.append(there)
    if (goal, True) not in steps:
        return None
    return facts_back_from(steps, (goal, True))


def facts_back_from(steps, last):
    """Return the facts along the steps that lead to the last one."""
    walk = []
    step = steps[last]
    while step is not None:
        before, fact = step
        walk.append(fact)
        step = steps[before]
    return tuple(walk[::-1])


def is_ring(mine, facts, ring):
    """Tell whether any value is a ring of the facts and the fan's fact."""
    return is_ring_among(mine, as_said(with_fan(mine, facts)), ring)


def is_ring_among(mine, said, ring):
    """Tell whether any value is a ring of facts that were said, the keys of a dict."""
    if not isinstance(ring, tuple):
        return False
    for fact in ring:
        # The form comes first: True would count as 1 among the keys, and not every value can be looked up.
        if not is_fact(mine, fact) or fact not in said:
            return False
    for k, fact in enumerate(ring):
        if ring[k - 1][1] != fact[0]:
            return False
    return any([fact[2] == 1 for fact in ring])


def stuck_places(mine, facts):
    """Return the ascending tuple of the places that are stuck by the facts and the fan's fact."""
    said = as_said(with_fan(mine, facts))
    return tuple([x for x in inner_places(mine) if stuck_by(said, x, near_places(mine, x)) is not None])


def stuck_by(said, x, near):
    """Return facts that were said and by which the inner place x, with these places near it, is stuck, or None."""
    arriving = one_sided_facts(said, [(z, x) for z in near])
    if arriving is not None:
        return arriving
    return one_sided_facts(said, [(x, z) for z in near])


def one_sided_facts(said, pairs):
    """Return a fact that was said for each pair, first place first, and one with s = 1 among them, or None."""
    found = []
    for pair in pairs:
        if pair + (0,) in said:
            found.append(pair + (0,))
        elif pair + (1,) in said:
            found.append(pair + (1,))
        else:
            return None
    if any([fact[2] == 1 for fact in found]):
        return tuple(found)
    above = [pair + (1,) for pair in pairs if pair + (1,) in said]
    return tuple(found + above[:1]) if above else None
