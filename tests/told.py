"""The document's rules about facts, trees and papers, told once more in the plainest way, to check answers against."""

from functools import lru_cache
from itertools import permutations, product

from tests.samples import BIG, told_balanced, told_inner, told_joined, told_state

WORDS = ("can", "sure", "count", "way", "plain", "looks", "doors", "undrawn", "alike")


def is_int(value):
    return type(value) is int


def is_tuple(value, length=None):
    return type(value) is tuple and (length is None or len(value) == length)


def is_place(mine, value):
    return is_int(value) and 0 <= value < mine[0]


def is_pair(mine, value):
    return is_tuple(value, 2) and is_place(mine, value[0]) and is_place(mine, value[1]) and value[0] != value[1]


def is_rising(value, allowed):
    """A strictly ascending tuple of some allowed integers."""
    if not is_tuple(value) or not all(is_int(x) and x in allowed for x in value):
        return False
    return all(value[k] < value[k + 1] for k in range(len(value) - 1))


def fan(mine):
    return (mine[2], mine[3], 1)


def sign(number):
    return (number > 0) - (number < 0)


def fits(facts, levels):
    for x, y, s in facts:
        if s == 1 and not levels[x] > levels[y] or s == 0 and not levels[x] >= levels[y]:
            return False
    return True


def picture(mine, levels):
    return tuple(sign(levels[a] - levels[b]) for a, b in mine[1])


def balanced_levels(mine):
    """All balanced levels, up to what leaves each comparison of two places as it is."""
    found = []
    for levels in product(range(mine[0]), repeat=mine[0]):
        if sorted(set(levels)) == list(range(len(set(levels)))) and told_balanced(mine, levels):
            found.append(levels)
    return found


def neighbours(mine, x):
    return [b if a == x else a for a, b in mine[1] if x in (a, b)]


def opposite(fact):
    return (fact[1], fact[0], 1 if fact[2] == 0 else 0)


def sign_facts(x, y, value):
    return {1: ((x, y, 1),), -1: ((y, x, 1),), 0: ((x, y, 0), (y, x, 0))}[value]


def is_fact(mine, value):
    return is_tuple(value, 3) and is_pair(mine, value[:2]) and is_int(value[2]) and value[2] in (0, 1)


def is_ring_of(said, ring):
    """Whether a tuple of facts is a ring of the facts said."""
    if len(ring) == 0 or not all(fact in said for fact in ring):
        return False
    following = ring[1:] + ring[:1]
    return all(one[1] == two[0] for one, two in zip(ring, following)) and any(fact[2] == 1 for fact in ring)


def has_ring(mine, facts):
    """Whether some ring goes through the facts and the fan's fact, by the closure of all comparisons."""
    said = set(facts) | {fan(mine)}
    places = range(mine[0])
    reach = {(x, y): max([s for a, b, s in said if (a, b) == (x, y)], default=-1) for x in places for y in places}
    for z, x, y in product(places, repeat=3):
        if reach[x, z] >= 0 and reach[z, y] >= 0:
            reach[x, y] = max(reach[x, y], reach[x, z], reach[z, y])
    for z, x, y in product(places, repeat=3):
        if reach[x, z] >= 0 and reach[z, y] >= 0:
            reach[x, y] = max(reach[x, y], reach[x, z], reach[z, y])
    return any(reach[x, x] == 1 for x in places)


def is_stuck(mine, said, x):
    near = neighbours(mine, x)
    for one, two in (("z", "x"), ("x", "z")):
        facts = [[{"z": z, "x": x}[one], {"z": z, "x": x}[two]] for z in near]
        above = [(a, b, 1) in said for a, b in facts]
        level = [(a, b, 0) in said for a, b in facts]
        if any(above) and all(up or same for up, same in zip(above, level)):
            return True
    return False


# Forms of papers.

def is_state_form(mine, value):
    if not is_tuple(value, 2) or not is_tuple(value[0], len(mine[1])) or not is_tuple(value[1], mine[0]):
        return False
    if not all(is_int(width) and 1 <= width <= BIG for width in value[0]):
        return False
    return all(is_int(level) and -BIG <= level <= BIG for level in value[1])


def is_tree_form(mine, value, census=False, cases=40):
    if not is_tuple(value) or not value or type(value[0]) is not str:
        return False
    if value[0] == "ring":
        if len(value) != 2 or not is_tuple(value[1]) or len(value[1]) > 60:
            return False
        return all(is_fact(mine, fact) for fact in value[1])
    if value[0] == "stuck":
        return len(value) == 2 and is_int(value[1]) and value[1] in told_inner(mine)
    if value[0] == "state":
        return census and is_state_form(mine, value[1:])
    if value[0] != "case" or len(value) != 5 or not is_pair(mine, value[1:3]) or cases == 0:
        return False
    return all(is_tree_form(mine, part, census, cases - 1) for part in value[3:])


def is_route_form(mine, value):
    return is_tuple(value) and len(value) <= 12 and all(is_int(w) and 0 <= w < len(mine[1]) for w in value)


def is_reduction_form(mine, value):
    inner = told_inner(mine)
    if not is_tuple(value) or not value or type(value[0]) is not str:
        return False
    if value[0] == "beside":
        return len(value) == 3 and is_rising(value[1:], range(61))
    if value[0] == "behind":
        return len(value) == 2 and is_int(value[1]) and value[1] in inner
    if value[0] != "hung" or len(value) != 3 or not is_place(mine, value[1]):
        return False
    return value[2] != () and is_rising(value[2], [x for x in inner if x != value[1]])


def are_reductions_form(mine, value):
    return is_tuple(value) and len(value) <= 40 and all(is_reduction_form(mine, part) for part in value)


def is_plan_form(mine, looks, value, left=2):
    if not is_tuple(value) or not value:
        return False
    if value[0] == "sure":
        if len(value) != 3 or not is_int(value[1]) or value[1] not in (1, -1, 0):
            return False
        many = 2 if value[1] == 0 else 1
        return is_tuple(value[2], many) and all(is_tree_form(mine, tree) for tree in value[2])
    if value[0] == "none":
        return len(value) == 2 and is_tree_form(mine, value[1])
    if not is_int(value[0]) or len(value) != 4 or not 0 <= value[0] < len(looks) or left == 0:
        return False
    return all(is_plan_form(mine, looks, part, left - 1) for part in value[1:])


def is_foe_form(mine, looks, value, many):
    if many == 0:
        return is_tuple(value, 2) and all(is_state_form(mine, state) for state in value)
    if not is_tuple(value, len(looks)):
        return False
    for entry in value:
        if not is_tuple(entry, 3) or not is_int(entry[0]) or entry[0] not in (1, -1, 0):
            return False
        if not is_state_form(mine, entry[1]) or not is_foe_form(mine, looks, entry[2], many - 1):
            return False
    return True


def is_break_form(mine, value):
    if not is_tuple(value) or not value:
        return False
    if value[0] == "apart":
        if len(value) != 2 or not is_rising(value[1], range(mine[0])):
            return False
        return mine[2] in value[1] and mine[3] not in value[1]
    if value[0] != "turns" or len(value) != 4 or not is_int(value[1]) or not 0 <= value[1] < len(mine[1]):
        return False
    return is_route_form(mine, value[2]) and is_route_form(mine, value[3])


# Conditions of papers. Each of these returns None where a part is right, otherwise a path or a fault.

def tree_fault(mine, facts, tree, census=False, path=()):
    """The path of the first part of a tree that is not right, or None."""
    said = set(facts) | {fan(mine)}
    if tree[0] == "ring":
        return None if is_ring_of(said, tree[1]) else path
    if tree[0] == "stuck":
        return None if is_stuck(mine, said, tree[1]) else path
    if tree[0] == "state":
        return None if census and is_told_leaf(mine, said, tree[1:]) else path
    _, x, y, above, rest = tree
    wrong = tree_fault(mine, facts + ((x, y, 1),), above, census, path + ("above",))
    if wrong is not None:
        return wrong
    return tree_fault(mine, facts + ((y, x, 0),), rest, census, path + ("rest",))


def is_told_leaf(mine, said, state):
    if not told_state(mine, *state) or not fits(said, state[1]):
        return False
    for a, b in mine[1]:
        if (a, b, 1) not in said and (b, a, 1) not in said and not {(a, b, 0), (b, a, 0)} <= said:
            return False
    return True


def is_right_tree(mine, facts, tree):
    return is_tree_form(mine, tree) and tree_fault(mine, facts, tree) is None


def is_right_census(mine, facts, census):
    return is_tree_form(mine, census, True) and tree_fault(mine, facts, census, True) is None


def census_states(census):
    if census[0] == "case":
        return census_states(census[3]) + census_states(census[4])
    return [census[1:]] if census[0] == "state" else []


def census_pictures(mine, census):
    return {picture(mine, levels) for _, levels in census_states(census)}


def most_cases(tree):
    return 1 + max(most_cases(tree[3]), most_cases(tree[4])) if tree[0] == "case" else 0


def opens_well(mine, facts, tree):
    """Whether all cases of a tree are for the ends of a way, where the facts have no ring and no stuck place."""
    if tree[0] != "case":
        return True
    _, x, y, above, rest = tree
    said = set(facts) | {fan(mine)}
    if (x, y) not in mine[1] and (y, x) not in mine[1]:
        return False
    if has_ring(mine, facts) or any(is_stuck(mine, said, place) for place in told_inner(mine)):
        return False
    return opens_well(mine, facts + ((x, y, 1),), above) and opens_well(mine, facts + ((y, x, 0),), rest)


def state_fault(mine, facts, state):
    if not told_state(mine, *state):
        return ("state",)
    return None if fits(facts, state[1]) else ("facts",)


@lru_cache(maxsize=2000)
def told_routes(mine):
    """All routes: for each row of different places from the inlet to the outlet, all ways to go along it."""
    _, ways, inlet, outlet = mine
    between = {}
    for w, (a, b) in enumerate(ways):
        between.setdefault((a, b), []).append(w)
        between.setdefault((b, a), []).append(w)
    found = []
    inner = [x for x in told_inner(mine) if any(x in way for way in ways)]
    for many in range(len(inner) + 1):
        for row in permutations(inner, many):
            steps = list(zip((inlet,) + row, row + (outlet,)))
            if all(step in between for step in steps):
                found.extend(product(*[between[step] for step in steps]))
    return sorted(found)


def told_side(mine, route, w):
    """The direction in which a route uses a way, by the places that it visits; None if it is no route."""
    row = [mine[2]]
    side = 0
    for used in route:
        a, b = mine[1][used]
        if row[-1] not in (a, b):
            return None
        row.append(b if row[-1] == a else a)
        if used == w:
            side = 1 if row[-1] == b else -1
    if row[-1] != mine[3] or len(set(row)) != len(row):
        return None
    return side


def told_turning(mine):
    routes = told_routes(mine)
    sides = [{told_side(mine, route, w) for route in routes} for w in range(len(mine[1]))]
    return tuple(w for w, seen in enumerate(sides) if {1, -1} <= seen)


@lru_cache(maxsize=2000)
def makes_plain(mine):
    return bool(told_routes(mine)) and not told_turning(mine)


def told_steps(mine, reductions):
    """("step", k), ("end",) or None, and the number of reductions that could be done."""
    joints = dict(enumerate(mine[1]))
    number = len(joints)
    for k, step in enumerate(reductions):
        made = step_done(joints, step)
        if made is None:
            return ("step", k)
        for joint in made:
            joints[number] = joint
            number += 1
    if [set(joint) for joint in joints.values()] != [{mine[2], mine[3]}]:
        return ("end",)
    return None


def step_done(joints, step):
    """Do one reduction: take joints out, return those that are made, or None if it cannot be done."""
    if step[0] == "beside":
        _, i, j = step
        if i not in joints or j not in joints or set(joints[i]) != set(joints[j]):
            return None
        made = [joints[i]]
        del joints[i], joints[j]
        return made
    if step[0] == "behind":
        at = [k for k, joint in joints.items() if step[1] in joint]
        ends = [end for k in at for end in joints[k] if end != step[1]]
        if len(at) != 2 or ends[0] == ends[1]:
            return None
        for k in at:
            del joints[k]
        return [tuple(ends)]
    _, x, some = step
    at = [k for k, joint in joints.items() if set(joint) & set(some)]
    if not at or any(not set(joints[k]) <= set(some) | {x} for k in at):
        return None
    for k in at:
        del joints[k]
    return []


def plan_fault(mine, facts, looks, goal, plan, most, path=()):
    if plan[0] == "none":
        return None if tree_fault(mine, facts, plan[1]) is None else path
    if plan[0] == "sure":
        for tree, fact in zip(plan[2], sign_facts(goal[0], goal[1], plan[1]), strict=True):
            if tree_fault(mine, facts + (opposite(fact),), tree) is not None:
                return path
        return None
    if most == 0:
        return path
    for answer, part in zip((1, -1, 0), plan[1:], strict=True):
        more = facts + sign_facts(*looks[plan[0]], answer)
        wrong = plan_fault(mine, more, looks, goal, part, most - 1, path + (answer,))
        if wrong is not None:
            return wrong
    return None


def foe_fault(mine, facts, looks, goal, foe, many, path=()):
    if many == 0:
        u, v = goal
        if any(state_fault(mine, facts, state) is not None for state in foe):
            return path
        signs = [sign(levels[u] - levels[v]) for _, levels in foe]
        return None if signs[0] != signs[1] else path
    for k, (answer, state, rest) in enumerate(foe):
        more = facts + sign_facts(*looks[k], answer)
        if state_fault(mine, more, state) is not None:
            return path + (k,)
        wrong = foe_fault(mine, more, looks, goal, rest, many - 1, path + (k,))
        if wrong is not None:
            return wrong
    return None


def is_right_break(mine, value):
    if value[0] == "apart":
        return not any((a in value[1]) != (b in value[1]) for a, b in mine[1])
    _, w, one, two = value
    return told_side(mine, one, w) == 1 and told_side(mine, two, w) == -1


def told_choices(doors):
    chosen = [()]
    for k in range(len(doors)):
        chosen += [more + (k,) for more in chosen]
    return sorted(chosen, key=lambda choice: (sum(doors[k][1] for k in choice), choice))


def shut(mine, doors, choice):
    gone = {doors[k][0] for k in choice}
    return (mine[0], tuple(way for w, way in enumerate(mine[1]) if w not in gone), mine[2], mine[3])


def extra(mine, pair):
    return (mine[0], mine[1] + (pair,), mine[2], mine[3])


def rising_pairs(mine):
    return [(a, b) for a in range(mine[0]) for b in range(mine[0]) if a < b]


# Claims.

def is_mine(value):
    if not is_tuple(value, 4) or not is_int(value[0]) or not 2 <= value[0] <= 8 or not is_pair(value, value[2:]):
        return False
    return is_tuple(value[1]) and 1 <= len(value[1]) <= 12 and all(is_pair(value, way) for way in value[1])


def are_facts(mine, value):
    return is_tuple(value) and len(value) <= 12 and all(is_fact(mine, fact) for fact in value)


def are_doors(mine, value):
    if not is_tuple(value) or len(value) > 3 or not all(is_tuple(door, 2) for door in value):
        return False
    if not all(is_int(w) and is_int(price) and 0 <= price <= 99 for w, price in value):
        return False
    numbers = [w for w, _ in value]
    return all(0 <= w < len(mine[1]) for w in numbers) and len(set(numbers)) == len(numbers)


def is_claim(value):
    lengths = dict(zip(WORDS, (3, 4, 4, 4, 2, 6, 4, 4, 3)))
    if not is_tuple(value) or not value or type(value[0]) is not str or value[0] not in WORDS:
        return False
    if len(value) != lengths[value[0]] or not is_mine(value[1]) or not told_joined(value[1]):
        return False
    word, mine = value[:2]
    if word in ("count", "looks", "undrawn", "alike") and len(mine[1]) > 10:
        return False
    if word in ("can", "sure", "count", "looks", "undrawn") and not are_facts(mine, value[2]):
        return False
    return has_claim_parts(word, mine, value[2:])


def has_claim_parts(word, mine, parts):
    if word == "sure":
        return is_fact(mine, parts[1])
    if word == "count":
        return is_int(parts[1]) and 0 <= parts[1] <= 200
    if word == "way":
        return is_int(parts[0]) and 0 <= parts[0] < len(mine[1]) and is_int(parts[1]) and parts[1] in (1, -1)
    if word == "looks":
        _, looks, goal, n = parts
        if not is_tuple(looks) or len(looks) > 2 or not all(is_pair(mine, look) for look in looks):
            return False
        return is_pair(mine, goal) and (n is None or is_int(n) and 0 <= n <= len(looks))
    if word == "doors":
        return are_doors(mine, parts[0]) and (parts[1] is None or is_rising(parts[1], range(len(parts[0]))))
    if word == "undrawn":
        return parts[1] is None or is_pair(mine, parts[1]) and parts[1][0] < parts[1][1]
    if word == "alike":
        return is_mine(parts[0]) and told_joined(parts[0]) and len(parts[0][1]) == len(mine[1])
    return True
