"""The document's rules about amounts of air, told once more in the plainest way, to check answers against."""

from fractions import Fraction
from functools import lru_cache

from tests.samples import told_joined
from tests.told import (
    are_reductions_form, is_int, is_mine, is_place, is_rising, is_state_form, is_tuple, makes_plain, sign, state_fault,
    told_routes, told_side, told_steps,
)
from windways.air import air_of

AMOUNT_WORDS = ("within", "bound", "effect")
PAPER = ("paper",)


def told_amounts(mine, widths, levels):
    return tuple(max(v * (levels[a] - levels[b]), v * (levels[b] - levels[a])) for v, (a, b) in zip(widths, mine[1]))


def told_within(mine, w, others):
    return all(set(route) & set(others) for route in told_routes(mine) if w in route)


def is_lock_form(mine, value):
    return is_tuple(value, 2) and is_place(mine, value[0]) and is_rising(value[1], range(mine[0]))


def is_told_lock(mine, w, others, value):
    if not is_lock_form(mine, value):
        return False
    gate, some = value
    if {mine[2], mine[3], gate} & set(some) or not set(mine[1][w]) <= set(some) | {gate}:
        return False
    for k, way in enumerate(mine[1]):
        inside = [x for x in way if x in some]
        outside = [x for x in way if x not in some]
        if k not in others and inside and outside and outside != [gate]:
            return False
    return True


def told_same_air(mine):
    using = [frozenset(route for route in told_routes(mine) if w in route) for w in range(len(mine[1]))]
    groups = {tuple(k for k, other in enumerate(using) if other == one) for one in using}
    return tuple(sorted(groups))


def told_greatest(mine, weights):
    return max(sum(weights[w] for w in route) for route in told_routes(mine))


@lru_cache(maxsize=2000)
def told_begun(mine):
    """All begun routes of a mine, each with the places that it visits."""
    found = [((), (mine[2],))]
    for begun, visited in found:
        if visited[-1] != mine[3]:
            for w, way in enumerate(mine[1]):
                for here, there in (way, way[::-1]):
                    if here == visited[-1] and there not in visited:
                        found.append((begun + (w,), visited + (there,)))
    return found


def told_ways_on(mine, begun):
    return tuple(sorted(more[-1] for more, _ in told_begun(mine) if more and more[:-1] == begun))


def is_walk_form(mine, value, begun=()):
    if not is_tuple(value) or not value or type(value[0]) is not str:
        return False
    if value[0] == "out":
        return len(value) == 1
    if value[0] == "low":
        if len(value) != 2 or not is_tuple(value[1], mine[0]):
            return False
        return all(is_int(height) and -10 ** 9 <= height <= 10 ** 9 for height in value[1])
    on = told_ways_on(mine, begun)
    if value[0] != "on" or len(value) != 2 or not is_tuple(value[1], len(on)):
        return False
    return all(is_walk_form(mine, part, begun + (w,)) for w, part in zip(on, value[1]))


def walk_fault(mine, weights, walk, begun=()):
    """The first begun route whose part of the walk is not right, or None."""
    visited = dict(told_begun(mine))[begun]
    place = visited[-1]
    along = sum(weights[w] for w in begun)
    if walk[0] == "out":
        return None if place == mine[3] and along <= 0 else begun
    if walk[0] == "low":
        heights = walk[1]
        for w, (a, b) in enumerate(mine[1]):
            if not {a, b} & set(visited[:-1]):
                if weights[w] + max(heights[a] - heights[b], heights[b] - heights[a]) > 0:
                    return begun
        drop = max(heights[place] - heights[mine[3]], heights[mine[3]] - heights[place])
        return None if along <= drop else begun
    if place == mine[3]:
        return begun
    for w, part in zip(told_ways_on(mine, begun), walk[1], strict=True):
        wrong = walk_fault(mine, weights, part, begun + (w,))
        if wrong is not None:
            return wrong
    return None


def is_told_walk(mine, weights, value):
    return is_walk_form(mine, value) and walk_fault(mine, weights, value) is None


def effects_seen(mine, widths, factor):
    """For each way v the signs by which the amounts of all ways change if v alone gets wider by the factor."""
    before = [Fraction(*air) for air in air_of(mine, widths)]
    rows = []
    for v in range(len(mine[1])):
        after = [Fraction(*air) for air in air_of(mine, widths[:v] + (widths[v] * factor,) + widths[v + 1:])]
        rows.append(tuple(sign(abs(more) - abs(less)) for more, less in zip(after, before)))
    return tuple(rows)


def told_effect(mine, reductions, v, w):
    """The effect as point 28 reads it off the reductions."""
    idle = {k for k in range(len(mine[1])) if not any(told_side(mine, route, k) for route in told_routes(mine))}
    if v in idle or w in idle:
        return 0
    if v == w:
        return 1
    joints = {k: (set(way), {k}) for k, way in enumerate(mine[1])}
    number = len(joints)
    joined_by = None
    for step in reductions:
        if step[0] == "hung":
            joints = {k: joint for k, joint in joints.items() if not joint[0] & set(step[2])}
            continue
        taken = step[1:] if step[0] == "beside" else [k for k, joint in joints.items() if step[1] in joint[0]]
        (ends, one), (more, two) = [joints.pop(k) for k in taken]
        if joined_by is not None and step[0] == "behind" and ({v, w} <= one or {v, w} <= two):
            return -1
        if joined_by is None and {v, w} <= one | two:
            joined_by = step[0]
            if joined_by == "behind":
                return 1
        joints[number] = (ends if step[0] == "beside" else ends ^ more, one | two)
        number += 1
    return 0


# Claims and certificates.

def is_amount_claim(value):
    lengths = dict(zip(AMOUNT_WORDS, (4, 3, 5)))
    if not is_tuple(value) or not value or type(value[0]) is not str or value[0] not in AMOUNT_WORDS:
        return False
    if len(value) != lengths[value[0]] or not is_mine(value[1]) or not told_joined(value[1]):
        return False
    word, mine = value[:2]
    ways = range(len(mine[1]))
    if word == "within":
        return is_int(value[2]) and value[2] in ways and is_rising(value[3], ways) and value[2] not in value[3]
    if word == "bound":
        return is_tuple(value[2], len(ways)) and all(is_int(one) and -99 <= one <= 99 for one in value[2])
    if not all(is_int(part) for part in value[2:]):
        return False
    return value[2] in ways and value[3] in ways and value[4] in (1, 0, -1) and makes_plain(mine)


def amount_fault(certificate):
    """The first fault of a certificate about amounts, or None."""
    if not is_tuple(certificate, 3):
        return ("form",)
    verdict, claim, paper = certificate
    if not is_amount_claim(claim):
        return ("claim",)
    if type(verdict) is not str or verdict not in ("shown", "broken"):
        return PAPER
    return ROWS[claim[0]](verdict == "shown", claim, paper)


def on_within(shown, claim, paper):
    _, mine, w, others = claim
    if shown:
        if not is_lock_form(mine, paper):
            return PAPER
        return None if is_told_lock(mine, w, others, paper) else ("lock",)
    if not is_state_form(mine, paper):
        return PAPER
    if state_fault(mine, (), paper) is not None:
        return ("state",)
    amounts = told_amounts(mine, *paper)
    return None if amounts[w] > sum(amounts[k] for k in others) else ("sum",)


def on_bound(shown, claim, paper):
    _, mine, weights = claim
    if shown:
        if not is_walk_form(mine, paper):
            return PAPER
        begun = walk_fault(mine, weights, paper)
        return None if begun is None else ("walk", begun)
    if not is_state_form(mine, paper):
        return PAPER
    if state_fault(mine, (), paper) is not None:
        return ("state",)
    amounts = told_amounts(mine, *paper)
    return None if sum(weights[w] * amounts[w] for w in range(len(weights))) > 0 else ("sum",)


def on_effect(shown, claim, paper):
    _, mine, v, w, d = claim
    if not are_reductions_form(mine, paper):
        return PAPER
    fault = told_steps(mine, paper)
    if fault is not None:
        return fault
    return None if (told_effect(mine, paper, v, w) == d) == shown else ("effect",)


ROWS = {"within": on_within, "bound": on_bound, "effect": on_effect}
