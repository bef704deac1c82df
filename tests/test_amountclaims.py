"""windways.amountclaims: valid claims about amounts, and the certificates that decide them."""

import copy
import time
import unittest
from itertools import product

from tests import told
from tests.samples import (
    BACKWARD_PAIR, BEHIND, BRIDGE, CROSS, CROWDED, FULL, HANGING, JOINED, LADDER, LINE, NOT_JOINED, PAIR, ROW, TURNED,
    TWINS, WHEEL, WITHOUT_WAYS, Numbers, full_mine, random_mines, small_mine,
)
from tests.test_amounts import MANY_ROUTES
from tests.test_claims import VALID
from tests.test_wider import DOUBLE, NESTED, drawn_plain_mine
from tests.told_amounts import (
    AMOUNT_WORDS, amount_fault, effects_seen, is_amount_claim, told_greatest, told_within,
)
from tests.variants import ODD, long_values, nested, values_of_every_kind, variants
from windways.amountchecker import first_amount_fault
from windways.amountclaims import decide_amount, require_amount_claim
from windways.checker import first_fault
from windways.claims import decide, require_claim
from windways.errors import InvalidClaim

AMOUNT_CLAIMS = (
    ("within", CROSS, 2, (0, 1)),
    ("within", CROSS, 2, (0,)),
    ("within", HANGING, 3, ()),
    ("bound", CROSS, (-1, -1, 1, 0, 0)),
    ("bound", CROSS, (0, 0, 1, 0, 0)),
    ("bound", PAIR, (-99,)),
    ("effect", DOUBLE, 1, 2, -1),
    ("effect", DOUBLE, 1, 2, 1),
    ("effect", HANGING, 2, 0, 0),
    ("effect", PAIR, 0, 0, 1),
)


class Certificates(unittest.TestCase):
    def assert_verdict(self, claim, expected):
        certificate = decide_amount(claim)
        self.assertTrue(type(certificate) is tuple and len(certificate) == 3)
        verdict, same, paper = certificate
        self.assertEqual((verdict, same), ("shown" if expected else "broken", claim))
        self.assertIsNone(amount_fault(certificate), certificate)
        self.assertIsNone(first_amount_fault(certificate), certificate)
        other = ("broken" if expected else "shown", claim, paper)
        self.assertIsNotNone(first_amount_fault(other))
        self.assertEqual(first_amount_fault(other), amount_fault(other))


class RequireAmountClaim(unittest.TestCase):
    def assert_told(self, value):
        before = copy.deepcopy(value)
        if is_amount_claim(value):
            self.assertIs(require_amount_claim(value), value)
        else:
            for refuse in (require_amount_claim, decide_amount):
                with self.assertRaises(InvalidClaim):
                    refuse(value)
        self.assertEqual(value, before)

    def test_valid_claims_are_returned_themselves(self):
        for claim in AMOUNT_CLAIMS:
            self.assertTrue(is_amount_claim(claim), claim)
            self.assertIs(require_amount_claim(claim), claim)
            self.assertIs(require_amount_claim(claim=claim), claim)

    def test_claims_of_the_other_kind(self):
        for claim in VALID:
            self.assert_told(claim)
            with self.assertRaises(InvalidClaim):
                require_amount_claim(claim)
            self.assertEqual(first_amount_fault(decide(claim)), ("claim",))
        for claim in AMOUNT_CLAIMS:
            for refuse in (require_claim, decide):
                with self.assertRaises(InvalidClaim):
                    refuse(claim)
            self.assertEqual(first_fault(decide_amount(claim)), ("claim",))

    def test_words(self):
        for claim in AMOUNT_CLAIMS:
            for word in AMOUNT_WORDS + told.WORDS + ("", "Within", "bound ", "effects", None, 0, ("bound",)):
                self.assert_told((word,) + claim[1:])

    def test_numbers_of_ways(self):
        for w in (-1, 0, 1, 4, 5, True, False, None, "0", (0,)):
            self.assert_told(("within", BRIDGE, w, ()))
            self.assert_told(("within", BRIDGE, 2, (w,)))
            self.assert_told(("within", BRIDGE, 2, (0, w)))
            self.assert_told(("effect", LINE, w, 0, 1))
            self.assert_told(("effect", LINE, 0, w, 1))
        for d in (-2, -1, 0, 1, 2, True, False, None, "1"):
            self.assert_told(("effect", LINE, 0, 0, d))

    def test_the_way_itself_is_not_among_the_others(self):
        for w in range(5):
            for others in ((), (0,), (0, 1), (0, 2), (1, 4), (0, 1, 2, 3, 4), (0, 1, 3, 4)):
                self.assertEqual(is_amount_claim(("within", BRIDGE, w, others)), w not in others)
                self.assert_told(("within", BRIDGE, w, others))

    def test_others_ascend(self):
        for others in ((1, 0), (0, 0), [0, 1], (0, 1, 1), (0, True), (False, 1), None, 0, "01", ((0,),), (0, 1, 5),
                       (-1, 0)):
            self.assert_told(("within", BRIDGE, 2, others))
            with self.assertRaises(InvalidClaim):
                require_amount_claim(("within", BRIDGE, 2, others))

    def test_weights(self):
        for weight in (-100, -99, -1, 0, 1, 99, 100, True, False, None, "1", 10 ** 60, (0,)):
            self.assert_told(("bound", PAIR, (weight,)))
            self.assert_told(("bound", BRIDGE, (0, 0, weight, 0, 0)))
        self.assertTrue(is_amount_claim(("bound", PAIR, (-99,))) and not is_amount_claim(("bound", PAIR, (100,))))
        for weights in ((), (0,) * 4, (0,) * 6, [0] * 5, None, 0, ((0,) * 5,)):
            self.assert_told(("bound", BRIDGE, weights))

    def test_effects_need_a_plain_mine(self):
        for mine in JOINED + tuple(mine for mine, _ in random_mines(701, 60)):
            self.assertEqual(is_amount_claim(("effect", mine, 0, 0, 1)), told.makes_plain(mine))
            self.assert_told(("effect", mine, 0, 0, 1))
        for mine in (BRIDGE, CROSS, WHEEL, LADDER, FULL):
            with self.assertRaises(InvalidClaim):
                decide_amount(("effect", mine, 0, 1, 0))

    def test_mines_are_joined(self):
        for mine in NOT_JOINED + WITHOUT_WAYS + ((3, ((0, 1),), 0, 1),):
            for claim in (("within", mine, 0, ()), ("bound", mine, (0,) * len(mine[1])), ("effect", mine, 0, 0, 1)):
                with self.assertRaises(InvalidClaim):
                    require_amount_claim(claim)
                self.assert_told(claim)

    def test_values_of_every_kind(self):
        for value in values_of_every_kind() + [nested(97, ()), nested(96, "within")]:
            self.assert_told(value)
            for word in AMOUNT_WORDS:
                self.assert_told((word, value))
                self.assert_told((word, CROSS, value))
                self.assert_told((word, value, 0, ()))
            for claim in AMOUNT_CLAIMS:
                for k in range(len(claim)):
                    self.assert_told(claim[:k] + (value,) + claim[k + 1:])

    def test_long_values(self):
        for value in long_values():
            for whole in (value, (value, CROSS), ("bound", value, ()), ("within", CROSS, 2, value),
                          ("bound", CROSS, value),
                          ("effect", DOUBLE, 0, 0, value)):
                self.assert_told(whole)

    def test_one_part_changed_at_any_depth(self):
        for claim in AMOUNT_CLAIMS:
            for value in variants(claim, ODD[:8] + ODD[13:18]):
                self.assert_told(value)


class DecideAmount(Certificates):
    def test_the_document(self):
        claim = ("within", (4, ((0, 1), (0, 2), (1, 2), (1, 3), (2, 3)), 0, 3), 2, (0, 1))
        told_one = decide_amount(claim)
        self.assertEqual(told_one[0], "shown")
        self.assertIsNone(first_amount_fault(told_one))
        wrong = ("broken", claim, ((1, 1, 1, 1, 1), (0, 0, 0, 0)))
        self.assertEqual(first_amount_fault(wrong), ("state",))

    def test_within(self):
        seen = {True: 0, False: 0}
        numbers = Numbers(702)
        for mine in JOINED + (MANY_ROUTES,) + tuple(mine for mine, _ in random_mines(703, 80)):
            for w in range(len(mine[1])):
                for most in (2, 4):
                    others = tuple(k for k in range(len(mine[1])) if k != w and not numbers.below(most))
                    expected = told_within(mine, w, others)
                    seen[expected] += 1
                    self.assert_verdict(("within", mine, w, others), expected)
        self.assertGreater(min(seen.values()), 200)

    def test_bound(self):
        seen = {True: 0, False: 0}
        for mine, numbers in random_mines(704, 100) + [(mine, Numbers(705)) for mine in JOINED + (MANY_ROUTES,)]:
            for shift in (0, 60, 100, 150):
                weights = tuple(max(-99, numbers.below(199) - 99 - shift) for _ in mine[1])
                expected = told_greatest(mine, weights) <= 0
                seen[expected] += 1
                self.assert_verdict(("bound", mine, weights), expected)
        self.assertGreater(min(seen.values()), 100)

    def test_bounds_that_fail_by_one(self):
        # All ways but those of one route weigh as little as can be, and that route weighs 0 or 1 in the sum.
        for mine, _ in random_mines(706, 40) + [(mine, None) for mine in (FULL, LADDER, WHEEL, CROWDED, LINE)]:
            for route in told.told_routes(mine)[:6]:
                for total in (0, 1):
                    ups = [99 if k % 2 == 0 else -99 for k in range(len(route))]
                    ups[-1] += total - sum(ups)
                    if -99 <= ups[-1] <= 99:
                        weights = [-99] * len(mine[1])
                        for w, weight in zip(route, ups):
                            weights[w] = weight
                        expected = told_greatest(mine, weights) <= 0
                        self.assert_verdict(("bound", mine, tuple(weights)), expected)

    def test_small_weights(self):
        for mine in (ROW, BACKWARD_PAIR, TWINS, BRIDGE):
            for weights in product((-1, 0, 1), repeat=len(mine[1])):
                self.assert_verdict(("bound", mine, weights), told_greatest(mine, weights) <= 0)

    def test_effects(self):
        numbers = Numbers(707)
        for mine in (PAIR, TWINS, DOUBLE, NESTED, HANGING) + tuple(drawn_plain_mine(numbers) for _ in range(12)):
            effects = effects_seen(mine, numbers.widths(mine), 1000)
            for v in range(len(mine[1])):
                for w in range(len(mine[1])):
                    for d in (1, 0, -1):
                        self.assert_verdict(("effect", mine, v, w, d), effects[v][w] == d)

    def test_equal_claims_have_equal_certificates(self):
        numbers = Numbers(708)
        claims = AMOUNT_CLAIMS + tuple(("bound", mine, (-1,) * len(mine[1])) for mine in (FULL, BEHIND, TURNED))
        before = [decide_amount(claim) for claim in claims]
        for _ in range(3):
            decide_amount(("within", small_mine(numbers, 6), 0, ()))
        after = [decide_amount(claim=copy.deepcopy(claim)) for claim in reversed(claims)]
        self.assertEqual(before, after[::-1])

    def test_nothing_is_changed(self):
        for claim in AMOUNT_CLAIMS:
            before = copy.deepcopy(claim)
            self.assertEqual(decide_amount(claim)[1], before)
            self.assertEqual(claim, before)

    def test_the_largest_claims_take_no_long(self):
        numbers = Numbers(709)
        began = time.perf_counter()
        for mine in (FULL, CROWDED, LADDER, WHEEL, TURNED, MANY_ROUTES) + tuple(full_mine(numbers) for _ in range(30)):
            ways = range(len(mine[1]))
            for claim in [("within", mine, w, tuple(k for k in ways if k != w and numbers.below(2))) for w in ways] + [
                    ("bound", mine, (-1,) * len(ways)), ("bound", mine, (99,) * len(ways))]:
                self.assertIsNone(first_amount_fault(decide_amount(claim)))
        for mine in [MANY_ROUTES, LINE] + [drawn_plain_mine(numbers) for _ in range(30)]:
            self.assertIsNone(first_amount_fault(decide_amount(("effect", mine, 0, len(mine[1]) - 1, 1))))
        self.assertLess(time.perf_counter() - began, 8)


if __name__ == "__main__":
    unittest.main()
