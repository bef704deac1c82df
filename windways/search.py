"""The search through cases: for a tree which shows that no state fits some facts, for a state, or for all pictures.

The search opens a case only for the two ends of a way, and only where the facts so
far have neither a ring nor a stuck place. What merely follows from the facts does
not count in a tree, so it is named by a case, one part of which is then a ring.
"""

from windways.balance import widths_for
from windways.facts import as_said, ring_of, ring_through, stuck_by, stuck_places, with_fan
from windways.known import all_known
from windways.mines import inner_places, near_places


class Search:
    """One search in a mine. It ends at the first state that it meets, or it goes through all of them.

    A part of a tree is a pair (tree, used): used has as its keys the facts that the
    tree needs, or is None for a tree with states, which needs all facts on its path.
    """

    def __init__(self, mine, takes_all):
        self._mine = mine
        self.takes_all = takes_all
        self.inner = inner_places(mine)
        self.near = [near_places(mine, x) for x in range(mine[0])]
        self.found = None

    def tree(self, facts):
        """Return the tree for the facts, or None if the search ended at a state: found has its levels."""
        ring = ring_of(self._mine, facts)
        if ring is not None:
            return ("ring", ring)
        stuck = stuck_places(self._mine, facts)
        if stuck:
            return ("stuck", stuck[0])
        part = self.part(all_known(self._mine[0], with_fan(self._mine, facts)))
        return None if part is None else part[0]

    def part(self, known):
        """Return a part for what is known, which has neither a ring nor a stuck place, or None."""
        case = self.next_case(known)
        if case is None:
            return self.part_of_state(known)
        x, y = case
        above = self.part_with(known, (x, y, 1))
        if above is None or is_without(above, (x, y, 1)):
            return above
        rest = self.part_with(known, (y, x, 0))
        if rest is None or is_without(rest, (y, x, 0)):
            return rest
        return (("case", x, y, above[0], rest[0]), used_by_case(x, y, above[1], rest[1]))

    def part_of_state(self, known):
        """Return the part of a state that was met, or None if the search ends here."""
        self.found = known.levels()
        if not self.takes_all:
            return None
        return (("state", widths_for(self._mine, self.found), self.found), None)

    def part_with(self, known, fact):
        """Return a part for what is known and one more fact, or None."""
        if known.rules_out(fact):
            ring = ring_through(known.said, fact)
            return (("ring", ring), as_said(ring))
        more = known.with_fact(fact)
        for x in fact[:2]:
            if x in self.inner:
                used = stuck_by(more.said, x, self.near[x])
                if used is not None:
                    return (("stuck", x), as_said(used))
        return self.part(more)

    def next_case(self, known):
        """Return the two places of the next case, or None if the signs of all ways are known, in a census by name."""
        fewest = None
        for x in self.inner:
            options = self.options_at(known, x)
            if options is not None and (fewest is None or len(options) < len(fewest)):
                fewest = options
                if not options:
                    return self.unsaid_case(known, [(x, z) for z in self.near[x]])
        if fewest is not None:
            return fewest[0]
        for a, b in self._mine[1]:
            if not known.is_settled(a, b):
                return (b, a) if known.is_not_below(b, a) else (a, b)
        return self.unsaid_case(known, self._mine[1]) if self.takes_all else None

    def options_at(self, known, x):
        """Return the cases one of which is due at place x, or None; none at all if no state can be met."""
        near = self.near[x]
        has_higher = any([known.is_above(z, x) for z in near])
        has_lower = any([known.is_above(x, z) for z in near])
        if has_higher and has_lower:
            return None
        higher = [(z, x) for z in near if not known.is_not_below(x, z)]
        lower = [(x, z) for z in near if not known.is_not_below(z, x)]
        if has_higher:
            return lower
        if has_lower:
            return higher
        if higher and lower:
            return None
        # No place can be on the one side, so that none can be on the other: one case settles each of them.
        return (higher + lower)[:1] or None

    def unsaid_case(self, known, pairs):
        """Return the case that names a comparison of one of the pairs, which is known but was not said, or None."""
        for a, b in pairs:
            for x, y in ((a, b), (b, a)):
                if known.is_above(x, y):
                    if (x, y, 1) not in known.said:
                        return (x, y)
                elif known.is_not_below(x, y) and (x, y, 0) not in known.said:
                    return (y, x)
        return None


def is_without(part, fact):
    """Tell whether a part is right without the fact: then the case that adds it is not needed."""
    used = part[1]
    return used is not None and fact not in used


def used_by_case(x, y, above, rest):
    """Return what a case uses whose two parts use these facts."""
    if above is None or rest is None:
        return None
    used = {fact: True for fact in above if fact != (x, y, 1)}
    for fact in rest:
        if fact != (y, x, 0):
            used[fact] = True
    return used
