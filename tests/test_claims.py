"""windways.claims: valid claims, and the certificates that decide them."""

import copy
import time
import unittest
from itertools import product

from tests import told
from tests.certificates import certificate_fault
from tests.samples import (
    BACKWARD_PAIR, BEHIND, BRIDGE, CROSS, FULL, HANGING, JOINED, LADDER, LINE, NOT_JOINED, PAIR, ROW, TWINS, WHEEL,
    WITHOUT_WAYS, Numbers, drawn_facts, drawn_order, drawn_pair, full_mine, random_mines, small_mine,
)
from tests.test_looks import STAR, told_number
from tests.variants import ODD, long_values, nested, values_of_every_kind, variants
from windways.cases import is_tree
from windways.checker import first_fault
from windways.claims import decide, require_claim
from windways.errors import InvalidClaim

TEN_WAYS = (8, LADDER[1][:2] + LADDER[1][3:], 0, 7)
ELEVEN_WAYS = LADDER
FACT = (0, 1, 1)
VALID = (
    ("can", BRIDGE, ((1, 2, 1), (0, 1, 0))),
    ("sure", BRIDGE, ((1, 2, 1),), (0, 1, 0)),
    ("count", BRIDGE, ((1, 2, 0),), 2),
    ("way", BRIDGE, 4, -1),
    ("plain", BRIDGE),
    ("looks", BRIDGE, ((1, 2, 0),), ((1, 2), (0, 1)), (1, 2), 1),
    ("looks", BRIDGE, (), (), (2, 1), None),
    ("doors", BRIDGE, ((4, 3), (0, 2)), (1,)),
    ("doors", BRIDGE, ((4, 3),), None),
    ("undrawn", ROW, ((2, 1, 0),), (0, 1)),
    ("undrawn", ROW, (), None),
    ("alike", BRIDGE, CROSS),
)


def trees_in(paper):
    """All trees, censuses among them, that a paper holds."""
    if type(paper) is not tuple:
        return []
    if paper and paper[0] in ("case", "ring", "stuck"):
        return [paper]
    return [tree for part in paper for tree in trees_in(part)]


def trees_of_plan(plan, facts, goal):
    """Pairs of a tree of a plan, whose only look is the goal, and the facts for which it is right."""
    if plan[0] == "none":
        return [(plan[1], facts)]
    if plan[0] == "sure":
        sure = told.sign_facts(*goal, plan[1])
        return [(tree, facts + (told.opposite(fact),)) for tree, fact in zip(plan[2], sure, strict=True)]
    found = []
    for part, answer in zip(plan[1:], (1, -1, 0), strict=True):
        found += trees_of_plan(part, facts + told.sign_facts(*goal, answer), goal)
    return found


class Certificates(unittest.TestCase):
    def assert_decided(self, claim):
        certificate = decide(claim)
        self.assertIs(type(certificate), tuple)
        self.assertEqual(len(certificate), 3)
        self.assertEqual(certificate[1], claim)
        self.assertIsNone(certificate_fault(certificate), certificate)
        self.assertIsNone(first_fault(certificate), certificate)
        other = ("broken" if certificate[0] == "shown" else "shown",) + certificate[1:]
        self.assertIsNotNone(first_fault(other), other)
        self.assertEqual(first_fault(other), certificate_fault(other), other)
        self.assertTrue(all(told.most_cases(tree) <= 24 for tree in trees_in(certificate[2])))
        return certificate

    def assert_verdict(self, claim, verdict):
        self.assertEqual(self.assert_decided(claim)[0], "shown" if verdict else "broken", claim)


class RequireClaim(unittest.TestCase):
    def assert_told(self, value):
        before = copy.deepcopy(value)
        if told.is_claim(value):
            self.assertIs(require_claim(value), value)
        else:
            for refuse in (require_claim, decide):
                with self.assertRaises(InvalidClaim):
                    refuse(value)
        self.assertEqual(value, before)

    def test_valid_claims_are_returned_themselves(self):
        for claim in VALID:
            self.assertTrue(told.is_claim(claim), claim)
            self.assertIs(require_claim(claim), claim)
            self.assertIs(require_claim(claim=claim), claim)

    def test_values_of_every_kind(self):
        for value in values_of_every_kind():
            self.assert_told(value)
            for word in told.WORDS:
                self.assert_told((word, value))
                self.assert_told((word, BRIDGE, value))
                self.assert_told((word, BRIDGE, (), value))
                self.assert_told((word, value, ()))
            self.assert_told((value, BRIDGE))
            self.assert_told((value, BRIDGE, ()))

    def test_every_part_exchanged(self):
        for claim in VALID:
            for k in range(len(claim)):
                for value in values_of_every_kind():
                    self.assert_told(claim[:k] + (value,) + claim[k + 1:])

    def test_long_values(self):
        for value in long_values():
            for whole in (value, (value, BRIDGE), ("plain", value), ("can", BRIDGE, value), ("alike", BRIDGE, value),
                          ("doors", BRIDGE, ((0, 1),), value), ("looks", BRIDGE, (), value, (0, 1), 0)):
                self.assert_told(whole)

    def test_one_part_changed_at_any_depth(self):
        for claim in VALID:
            for value in variants(claim, ODD[:8] + ODD[13:18]):
                self.assert_told(value)

    def test_words(self):
        for claim in VALID:
            for word in told.WORDS + ("within", "bound", "effect", "", "Can", "can ", "canned"):
                self.assert_told((word,) + claim[1:])

    def test_amount_claims_are_none_of_these(self):
        for claim in (("within", BRIDGE, 2, (0, 1)), ("bound", BRIDGE, (0,) * 5), ("effect", ROW, 0, 1, 1)):
            self.assert_told(claim)
            with self.assertRaises(InvalidClaim):
                decide(claim)

    def test_mines_are_joined(self):
        for mine in NOT_JOINED + WITHOUT_WAYS + ((3, ((0, 1),), 0, 1),):
            for claim in (("plain", mine), ("can", mine, ()), ("way", mine, 0, 1), ("alike", mine, mine),
                          ("alike", PAIR, mine), ("doors", mine, (), None), ("undrawn", mine, (), None)):
                with self.assertRaises(InvalidClaim):
                    require_claim(claim)
        split = (4, ((0, 1), (0, 1)), 0, 1)
        for claim in (("alike", ROW, split), ("alike", split, ROW)):
            with self.assertRaises(InvalidClaim):
                require_claim(claim)

    def test_twelve_facts_and_thirteen(self):
        for many in (0, 12, 13, 20):
            facts = (FACT,) * many
            for claim in (("can", BRIDGE, facts), ("sure", BRIDGE, facts, FACT), ("count", BRIDGE, facts, 3),
                          ("looks", BRIDGE, facts, (), (0, 1), 0), ("undrawn", BRIDGE, facts, None)):
                self.assertEqual(told.is_claim(claim), many <= 12)
                self.assert_told(claim)

    def test_ten_ways_and_eleven(self):
        for mine in (TEN_WAYS, ELEVEN_WAYS, FULL):
            few = len(mine[1]) <= 10
            for claim in (("count", mine, (), 0), ("looks", mine, (), (), (0, 1), None), ("undrawn", mine, (), None),
                          ("alike", mine, mine)):
                self.assertEqual(told.is_claim(claim), few)
                self.assert_told(claim)
            for claim in (("can", mine, ()), ("sure", mine, (), FACT), ("way", mine, 0, 1), ("plain", mine),
                          ("doors", mine, ((0, 1),), None)):
                self.assertTrue(told.is_claim(claim))
                self.assert_told(claim)

    def test_numbers(self):
        for n in (-1, 0, 1, 200, 201, True, False, None, "3", 3 * 10 ** 60):
            self.assert_told(("count", BRIDGE, (), n))
        for w in (-1, 0, 4, 5, True, None):
            for d in (-2, -1, 0, 1, 2, True, False, None, "1"):
                self.assert_told(("way", BRIDGE, w, d))
        for looks in ((), ((0, 1),), ((0, 1), (0, 1)), ((0, 1),) * 3, ((0, 0),), ((0, 4),), [(0, 1)], None):
            for n in (None, -1, 0, 1, 2, 3, True, False, "1"):
                self.assert_told(("looks", BRIDGE, (), looks, (1, 2), n))
        for goal in ((1, 1), (0, 4), (1, 2, 0), [1, 2], (True, 2), None, ()):
            self.assert_told(("looks", BRIDGE, (), (), goal, 0))

    def test_choices(self):
        doors = ((4, 3), (0, 2), (1, 1))
        for choice in (
            None, (), (0,), (2,), (3,), (-1,), (0, 2), (2, 0), (0, 0), (0, 1, 2), (0, 1, 2, 3), [0], (True,),
            (False, 1), (0, True), "0", 0, ((0,),), (None,),
        ):
            for many in range(4):
                self.assert_told(("doors", BRIDGE, doors[:many], choice))

    def test_pairs(self):
        for pair in (
            None, (0, 1), (2, 3), (1, 0), (0, 0), (0, 4), (-1, 0), (0, True), (False, 1), [0, 1], (0, 1, 2), (),
        ):
            self.assert_told(("undrawn", BRIDGE, (), pair))

    def test_other_numbers_of_ways(self):
        for mine, other in product((PAIR, BACKWARD_PAIR, ROW, TWINS, BRIDGE, CROSS), repeat=2):
            claim = ("alike", mine, other)
            self.assertEqual(told.is_claim(claim), len(mine[1]) == len(other[1]))
            self.assert_told(claim)

    def test_deep_values(self):
        for empty in ((), None, "can"):
            deep = nested(96, empty)
            for value in (deep, ("can", BRIDGE, deep), ("can", deep, ()), (deep, BRIDGE, ()), ("plain", deep)):
                self.assert_told(value)


class Decide(Certificates):
    def test_the_document(self):
        self.assertEqual(decide(("way", BRIDGE, 4, -1)), ("shown", ("way", BRIDGE, 4, -1), (1, 4, 2)))
        self.assertEqual(decide(claim=("plain", PAIR)), ("shown", ("plain", PAIR), ()))

    def test_valid_claims(self):
        for claim in VALID:
            self.assert_decided(claim)

    def test_one_part_changed(self):
        for claim in VALID:
            for value in variants(claim[2:], ODD[:8]):
                if type(value) is tuple and told.is_claim(claim[:2] + value):
                    self.assert_decided(claim[:2] + value)

    def test_can_and_sure(self):
        numbers = Numbers(111)
        for _ in range(50):
            mine = small_mine(numbers, 5)
            balanced = told.balanced_levels(mine)
            for many in (0, 1, 2, 4, 12):
                facts = drawn_facts(mine, numbers, many)
                fitting = [levels for levels in balanced if told.fits(facts, levels)]
                self.assert_verdict(("can", mine, facts), bool(fitting))
                (fact,) = drawn_facts(mine, numbers, 1)
                sure = all(told.fits((fact,), levels) for levels in fitting)
                self.assert_verdict(("sure", mine, facts, fact), sure)

    def test_count(self):
        numbers = Numbers(112)
        for k in range(40):
            mine = small_mine(numbers, 5)
            if k < 4:
                mine = (BRIDGE, STAR, CROSS, (5, tuple((a, b) for a in range(5) for b in range(a + 1, 5)), 0, 4))[k]
            if len(mine[1]) <= 10:
                balanced = told.balanced_levels(mine)
                for many in (0, 1, 3):
                    facts = drawn_facts(mine, numbers, many)
                    pictures = {told.picture(mine, levels) for levels in balanced if told.fits(facts, levels)}
                    for n in {0, 1, len(pictures), len(pictures) + 1, 200}:
                        self.assert_verdict(("count", mine, facts, n), n == len(pictures))

    def test_way(self):
        for mine in JOINED + tuple(mine for mine, _ in random_mines(113, 40)):
            routes = told.told_routes(mine)
            for w in range(len(mine[1])):
                sides = {told.told_side(mine, route, w) for route in routes}
                for d in (1, -1):
                    self.assert_verdict(("way", mine, w, d), d in sides)

    def test_plain(self):
        for mine in JOINED + tuple(mine for mine, _ in random_mines(114, 80)):
            self.assert_verdict(("plain", mine), told.makes_plain(mine))

    def test_looks(self):
        numbers = Numbers(115)
        papers = set()
        for k in range(60):
            mine = (small_mine(numbers, 5), STAR, BRIDGE)[k % 3]
            balanced = told.balanced_levels(mine) if len(mine[1]) <= 10 else []
            for many in (0, 1, 2) if balanced else ():
                facts = drawn_facts(mine, numbers, many)
                fitting = [levels for levels in balanced if told.fits(facts, levels)]
                looks = tuple(drawn_pair(mine, numbers) for _ in range(numbers.below(3)))
                goal = drawn_pair(mine, numbers)
                number = told_number(fitting, looks, goal)
                for n in (None, 0, 1, 2)[:len(looks) + 2]:
                    self.assert_verdict(("looks", mine, facts, looks, goal, n), n == number)
                    papers.add((number, n))
        self.assertLessEqual({(0, 0), (None, None), (None, 0), (None, 1), (None, 2), (0, None), (1, 1)}, papers)

    def test_looks_of_every_number(self):
        settled = ((1, 3, 0), (3, 2, 0))
        for facts, looks, number in (
            (settled, ((1, 3), (3, 2)), 2), (settled, ((1, 3), (1, 3)), None), ((), ((1, 2), (1, 3)), 1),
            (((1, 2, 1),), ((1, 2), (1, 3)), 0), (((1, 0, 1),), ((1, 2), (1, 3)), 0), ((), ((1, 2), (1, 2)), 1),
        ):
            for n in (None, 0, 1, 2):
                self.assert_verdict(("looks", STAR, facts, looks, (1, 2), n), n == number)

    def test_doors(self):
        kinds = set()
        for mine, numbers in random_mines(116, 80):
            order = drawn_order(len(mine[1]), numbers)
            doors = tuple((w, numbers.below(3) * 33) for w in order[:numbers.below(4)])
            choices = told.told_choices(doors)
            plain = [choice for choice in choices if told.makes_plain(told.shut(mine, doors, choice))]
            first = plain[0] if plain else None
            for choice in [None] + choices:
                self.assert_verdict(("doors", mine, doors, choice), choice == first)
                paper = decide(("doors", mine, doors, choice))[2]
                kinds.add(paper[0] if paper and type(paper[0]) is str else choice is None)
        self.assertEqual(kinds, {"not", "ahead", True, False})

    def test_doors_that_part_the_mine(self):
        for choice in (None, (), (0,), (0, 1), (0, 1, 2), (1,), (2,)):
            self.assert_verdict(("doors", TWINS, ((0, 0), (1, 0), (2, 0)), choice), choice == ())
            self.assert_verdict(("doors", BRIDGE, ((0, 0), (1, 0), (4, 0)), choice), choice == (0,))
        self.assert_verdict(("doors", PAIR, ((0, 0),), (0,)), False)
        self.assert_verdict(("doors", WHEEL, ((0, 99), (1, 99), (2, 99)), None), True)

    def test_undrawn(self):
        numbers = Numbers(117)
        verdicts = set()
        for _ in range(40):
            mine = small_mine(numbers, 4)
            if len(mine[1]) <= 10:
                pairs = told.rising_pairs(mine)
                levels = {pair: told.balanced_levels(told.extra(mine, pair)) for pair in pairs}
                for many in (1, 2, 4):
                    facts = drawn_facts(mine, numbers, many)
                    able = [pair for pair in pairs if any(told.fits(facts, one) for one in levels[pair])]
                    first = able[0] if able else None
                    for pair in [None] + pairs:
                        verdicts.add((first is None, pair is None, pair == first))
                        self.assert_verdict(("undrawn", mine, facts, pair), pair == first)
        self.assertEqual(len(verdicts), 5)

    def test_alike(self):
        numbers = Numbers(118)
        mines = {}
        for _ in range(120):
            mine = small_mine(numbers, 5)
            if len(mine[1]) <= 10:
                mines.setdefault(len(mine[1]), []).append(mine)
        seen = {}
        for same_count in mines.values():
            pictures = [{told.picture(mine, levels) for levels in told.balanced_levels(mine)} for mine in same_count]
            for k in range(1, len(same_count)):
                for j in (k - 1, k):
                    self.assert_verdict(("alike", same_count[j], same_count[k]), pictures[j] == pictures[k])
                    kind = (pictures[j] <= pictures[k], pictures[j] >= pictures[k])
                    seen[kind] = seen.get(kind, 0) + 1
        self.assertLessEqual({(True, True), (False, False)}, set(seen))

    def test_one_mine_with_more_pictures(self):
        # The second mine is the first one with the way across beside another way.
        mine = (4, ((0, 1), (0, 2), (1, 3), (2, 3), (1, 2)), 0, 3)
        line = (3, ((0, 1), (0, 1), (1, 2), (1, 2), (0, 1)), 0, 2)
        self.assert_verdict(("alike", mine, line), False)
        self.assert_verdict(("alike", line, mine), False)
        self.assertEqual(decide(("alike", mine, line))[2][0], 0)
        self.assertEqual(decide(("alike", line, mine))[2][0], 1)
        self.assert_verdict(("alike", mine, mine), True)

    def test_cases_are_opened_for_ways_where_nothing_is_stuck(self):
        for mine, numbers in random_mines(119, 80):
            facts = drawn_facts(mine, numbers, 3)
            (fact,) = drawn_facts(mine, numbers, 1)
            others = facts + (told.opposite(fact),)
            for claim, more in ((("can", mine, facts), facts), (("sure", mine, facts, fact), others)):
                for tree in trees_in(decide(claim)[2]):
                    self.assertTrue(told.opens_well(mine, more, tree))
                    self.assertTrue(is_tree(mine, more, tree))
            if len(mine[1]) <= 10:
                self.assertTrue(told.opens_well(mine, facts, decide(("count", mine, facts, 1))[2]))
                claim = ("undrawn", mine, facts, None)
                verdict, _, paper = decide(claim)
                if verdict == "shown":
                    for pair, tree in zip(told.rising_pairs(mine), paper, strict=True):
                        self.assertTrue(told.opens_well(told.extra(mine, pair), facts, tree))
                for w, (a, b) in enumerate(mine[1]):
                    verdict, _, paper = decide(("way", mine, w, 1))
                    self.assertTrue(verdict == "shown" or told.opens_well(mine, ((a, b, 1),), paper))

    def test_cases_of_plans_and_of_mines_that_are_not_alike(self):
        for mine, numbers in random_mines(122, 40):
            if len(mine[1]) <= 10:
                facts = drawn_facts(mine, numbers, 1)
                goal = drawn_pair(mine, numbers)
                verdict, _, paper = decide(("looks", mine, facts, (goal,), goal, 1))
                plan = paper[0] if verdict == "shown" else paper[1]
                for tree, more in trees_of_plan(plan, facts, goal):
                    self.assertTrue(told.opens_well(mine, more, tree))
                turned = (mine[0], (mine[1][0][::-1],) + mine[1][1:], mine[2], mine[3])
                verdict, _, paper = decide(("alike", mine, turned))
                if verdict == "broken":
                    more = ()
                    for (a, b), side in zip(turned[1], told.picture(mine, paper[1][1]), strict=True):
                        more += told.sign_facts(a, b, side)
                    self.assertEqual(paper[0], 0)
                    self.assertTrue(told.opens_well(turned, more, paper[2]))


class Calls(Certificates):
    def test_nothing_is_changed_and_answers_stay(self):
        for claim in VALID:
            before = copy.deepcopy(claim)
            first = decide(claim)
            self.assertEqual(decide(copy.deepcopy(claim)), first)
            self.assertEqual(claim, before)

    def test_drawn_claims(self):
        for mine, numbers in random_mines(120, 60):
            facts = drawn_facts(mine, numbers, numbers.below(4))
            few = len(mine[1]) <= 10
            looks = (drawn_pair(mine, numbers), drawn_pair(mine, numbers))
            self.assert_decided(("can", mine, facts))
            self.assert_decided(("sure", mine, facts) + drawn_facts(mine, numbers, 1))
            for n in (0, 1, 3, 200) if few else ():
                self.assert_decided(("count", mine, facts, n))
            for n in (None, 0, 1, 2) if few else ():
                self.assert_decided(("looks", mine, facts, looks, drawn_pair(mine, numbers), n))
            for pair in (None, tuple(sorted(drawn_pair(mine, numbers)))) if few else ():
                self.assert_decided(("undrawn", mine, facts, pair))

    def test_the_largest_claims_take_no_long(self):
        numbers = Numbers(121)
        began = time.perf_counter()
        for mine in (FULL, LADDER, WHEEL, HANGING) + tuple(full_mine(numbers) for _ in range(10)):
            facts = drawn_facts(mine, numbers, 12)
            doors = tuple((w, 33) for w in drawn_order(len(mine[1]), numbers)[:3])
            for claim in (("can", mine, facts), ("can", mine, ()), ("sure", mine, facts[:1], (mine[2], mine[3], 1)),
                          ("way", mine, 0, 1), ("plain", mine), ("doors", mine, doors, None)):
                self.assert_decided(claim)
        for mine in (TEN_WAYS, LINE, BEHIND, (6, WHEEL[1][1:], 0, 5)):
            looks = (drawn_pair(mine, numbers), drawn_pair(mine, numbers))
            for claim in (("count", mine, (), 200), ("looks", mine, (), looks, looks[0], 2), ("alike", mine, mine),
                          ("looks", mine, (), looks, drawn_pair(mine, numbers), None), ("undrawn", mine, (), None),
                          ("undrawn", mine, ((mine[3], mine[2], 0),), None)):
                self.assert_decided(claim)
        self.assertLess(time.perf_counter() - began, 20)


if __name__ == "__main__":
    unittest.main()
