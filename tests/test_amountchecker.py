"""windways.amountchecker: the rows of the table of point 29, each fault by hand, and parts exchanged at any depth."""

import copy
import time
import unittest
from unittest import mock

from tests.samples import (
    BIG, BRIDGE, CROSS, FULL, HANGING, LADDER, LINE, PAIR, ROW, TURNED, TWINS, WHEEL, Numbers, full_mine, random_mines,
    small_mine,
)
from tests.test_amountclaims import AMOUNT_CLAIMS
from tests.test_amounts import MANY_ROUTES
from tests.test_bounds import drawn_walk
from tests.test_checker_values import with_drawn_change
from tests.test_plain import doable_reductions
from tests.test_wider import DOUBLE, NESTED, SQUARE, drawn_plain_mine
from tests.told import makes_plain
from tests.told_amounts import amount_fault, told_begun, told_ways_on
from tests.variants import ODD, long_values, nested, values_of_every_kind, variants
from windways import cases, plain, routes, search
from windways.amountchecker import first_amount_fault
from windways.amountclaims import decide_amount
from windways.claims import decide
from windways.wider import effects_of

PAPER = ("paper",)
OUT = ("out",)
FAR = 10 ** 9
OTHER = {"shown": "broken", "broken": "shown"}
# A state of CROSS with place 1 above place 2: the way across, way 2, carries 2.
STATE = ((6, 2, 2, 2, 6), (3, 2, 1, 0))


def with_walk(mine, walk, begun, part, done=()):
    """The walk with the part for a begun route exchanged."""
    if done == begun:
        return part
    k = told_ways_on(mine, done).index(begun[len(done)])
    parts = list(walk[1])
    parts[k] = with_walk(mine, parts[k], begun, part, begun[:len(done) + 1])
    return ("on", tuple(parts))


class Rows(unittest.TestCase):
    def assert_fault(self, verdict, claim, paper, fault):
        self.assertEqual(first_amount_fault((verdict, claim, paper)), fault, paper)
        self.assertEqual(amount_fault((verdict, claim, paper)), fault, paper)

    def assert_papers(self, verdict, claim, *papers):
        """None of the papers has the form that the row asks for."""
        for paper in papers:
            self.assert_fault(verdict, claim, paper, PAPER)


class Frame(Rows):
    CLAIM = ("within", CROSS, 2, (0, 1))

    def test_the_document(self):
        told_one = decide_amount(self.CLAIM)
        self.assertEqual(told_one[0], "shown")
        self.assertIsNone(first_amount_fault(certificate=told_one))
        self.assert_fault("broken", self.CLAIM, ((1, 1, 1, 1, 1), (0, 0, 0, 0)), ("state",))

    def test_triples(self):
        right = decide_amount(self.CLAIM)
        for value in (right[:2], right + (None,), list(right), (), None, "abc", {0: 1, 1: 2, 2: 3}, 3, (right,)):
            self.assertEqual(first_amount_fault(value), ("form",))

    def test_claims_come_before_verdicts_and_papers(self):
        for claim in (None, (), ("plain", PAIR), ("can", PAIR, ()), ("within", PAIR, 0, (0,)), ("bound", PAIR, (100,)),
                      ("effect", BRIDGE, 0, 1, 1), ("effect", CROSS, 2, 2, 1), ["bound", PAIR, (0,)],
                      ("within", (3, ((0, 1), (0, 1)), 0, 1), 0, ()), ("bound", PAIR, (True,)),
                      ("within", PAIR, False, ())):
            for verdict in ("shown", "maybe", None):
                self.assert_fault(verdict, claim, (), ("claim",))

    def test_verdicts(self):
        claim = ("effect", PAIR, 0, 0, 1)
        for verdict in ("", "Shown", "shown ", "maybe", None, True, 1, (), [], {}, ("shown",), ["broken"]):
            self.assert_fault(verdict, claim, (), PAPER)
        self.assert_fault("shown", claim, (), None)


class Within(Rows):
    CLAIM = ("within", CROSS, 2, (0, 1))

    def test_locks(self):
        self.assert_fault("shown", self.CLAIM, (3, (1, 2)), None)
        for lock in ((3, ()), (3, (1,)), (3, (2,)), (1, (2,)), (0, (1, 2)), (3, (0, 1, 2)), (3, (1, 2, 3)), (2, (1,)),
                     (1, (1, 2)), (0, (0, 3)), (3, (0, 1, 2, 3))):
            self.assert_fault("shown", self.CLAIM, lock, ("lock",))
        self.assert_fault("shown", ("within", CROSS, 2, (3, 4)), (0, (1, 2)), None)
        self.assert_fault("shown", ("within", CROSS, 2, (3, 4)), (3, (1, 2)), ("lock",))
        self.assert_fault("shown", ("within", HANGING, 3, ()), (1, (3, 4)), None)
        self.assert_fault("shown", ("within", HANGING, 5, ()), (0, (5,)), None)
        self.assert_fault("shown", ("within", HANGING, 6, ()), (2, (6,)), None)

    def test_forms_of_locks(self):
        self.assert_papers(
            "shown", self.CLAIM, (4, (1, 2)), (-1, (1, 2)), (True, (2,)), (None, (1, 2)), (3, (2, 1)), (3, (1, 1)),
            (3, (1, 4)), (3, (-1, 1)), (3, (True, 2)), (3, [1, 2]), (3, 1), (3,), (3, (1, 2), ()), [3, (1, 2)], (),
            None,
            ((1, 2), 3), "lock", STATE,
        )

    def test_states(self):
        claim = ("within", CROSS, 2, (0,))
        even = ((1, 1, 1, 1, 1), (2, 1, 1, 0))
        strong = ((1, 9, 9, 9, 1), (19, 9, 10, 0))
        self.assert_fault("broken", claim, ((1, 1, 1, 1, 1), (9, 9, 9, 9)), ("state",))
        self.assert_fault("broken", claim, strong, ("state",))
        self.assert_fault("broken", claim, even, ("sum",))
        self.assert_fault("broken", claim, STATE, ("sum",))
        self.assert_fault("broken", claim, decide_amount(claim)[2], None)
        # Place 1 is fed by way 2 alone but for a little: way 2 carries 4, way 0 carries 2, way 1 the rest.
        state = ((1, 8, 4, 6, 2), (3, 1, 2, 0))
        self.assert_fault("broken", claim, state, None)
        self.assert_fault("broken", ("within", CROSS, 2, (0, 3)), state, ("sum",))
        self.assert_fault("broken", ("within", CROSS, 2, ()), state, None)
        self.assert_fault("broken", ("within", CROSS, 2, ()), even, ("sum",))
        self.assert_fault("broken", self.CLAIM, STATE, ("sum",))
        self.assert_fault("broken", ("within", ROW, 0, (1,)), ((1, 1), (2, 1, 0)), ("sum",))

    def test_forms_of_states(self):
        widths, levels = STATE
        claim = ("within", CROSS, 2, (0,))
        self.assert_papers(
            "broken", claim, None, (), widths, (widths,), STATE + ((),), list(STATE), (widths[1:], levels),
            (widths, levels[1:]),
            ((0,) + widths[1:], levels), ((BIG + 1,) + widths[1:], levels), (widths, (BIG + 1,) + levels[1:]),
            (widths, (-BIG - 1,) + levels[1:]), ((True,) + widths[1:], levels), (list(widths), levels), (3, (1, 2)),
        )
        self.assert_fault("broken", ("within", PAIR, 0, ()), ((BIG,), (BIG, -BIG)), None)


class Bound(Rows):
    ROW_CLAIM = ("bound", ROW, (5, -5))

    def test_walks(self):
        self.assert_fault("shown", self.ROW_CLAIM, ("on", (("on", (OUT,)),)), None)
        self.assert_fault("shown", self.ROW_CLAIM, ("on", (("low", (0, 5, 0)),)), None)
        self.assert_fault("shown", self.ROW_CLAIM, OUT, ("walk", ()))
        self.assert_fault("shown", self.ROW_CLAIM, ("low", (0, 0, 0)), ("walk", ()))
        self.assert_fault("shown", self.ROW_CLAIM, ("on", (OUT,)), ("walk", (0,)))
        self.assert_fault("shown", self.ROW_CLAIM, ("on", (("low", (0, 4, 0)),)), ("walk", (0,)))
        self.assert_fault("shown", self.ROW_CLAIM, ("on", (("low", (0, 6, 0)),)), ("walk", (0,)))
        self.assert_fault("shown", self.ROW_CLAIM, ("on", (("on", (("on", ()),)),)), ("walk", (0, 1)))
        self.assert_fault("shown", ("bound", ROW, (5, -4)), ("on", (("on", (OUT,)),)), ("walk", (0, 1)))
        self.assert_fault("shown", ("bound", ROW, (5, -4)), ("on", (("on", (("low", (0, 0, 0)),)),)), ("walk", (0, 1)))
        self.assert_fault("shown", ("bound", ROW, (5, -5)), ("on", (("on", (("low", (9, 9, 0)),)),)), None)

    def test_the_first_begun_route(self):
        claim = ("bound", BRIDGE, (-1, -1, -1, -1, -1))
        right = decide_amount(claim)[2]
        # The begun routes in their sequence: a part before its own parts.
        begun = ((), (0,), (0, 2), (0, 4), (0, 4, 3), (1,), (1, 3), (1, 4), (1, 4, 2))
        ends = {(0, 2), (0, 4, 3), (1, 3), (1, 4, 2)}
        visited = dict(told_begun(BRIDGE))
        self.assert_fault("shown", claim, right, None)
        for k, route in enumerate(begun):
            wrong = with_walk(BRIDGE, right, route, ("on", ()) if route in ends else OUT)
            self.assert_fault("shown", claim, wrong, ("walk", route))
            for later in begun[k:]:
                if later in ends and later[:len(route)] != route:
                    self.assert_fault("shown", claim, with_walk(BRIDGE, wrong, later, ("on", ())), ("walk", route))
            low = with_walk(BRIDGE, right, route, ("low", (0, 50, 0, 0)))
            self.assert_fault("shown", claim, low, None if 1 in visited[route][:-1] else ("walk", route))

    def test_where_no_way_leads_on(self):
        mine = (3, ((0, 1), (0, 2)), 0, 1)
        claim = ("bound", mine, (0, 99))
        self.assert_fault("shown", claim, ("on", (OUT, ("on", ()))), None)
        self.assert_fault("shown", claim, ("on", (("on", ()), ("on", ()))), ("walk", (0,)))
        self.assert_fault("shown", claim, ("on", (OUT, OUT)), ("walk", (1,)))
        self.assert_fault("shown", claim, ("on", (OUT, ("low", (0, 0, 0)))), ("walk", (1,)))
        self.assert_papers("shown", claim, ("on", (OUT,)), ("on", ()), ("on", (OUT, ("on", (OUT,)))),
                           ("on", (("on", (OUT,)), OUT)))

    def test_heights(self):
        claim = ("bound", PAIR, (-1,))
        for height in (0, 1, -1, FAR, -FAR):
            self.assert_fault("shown", claim, ("low", (height, height)), None)
        self.assert_fault("shown", claim, ("low", (FAR, -FAR)), ("walk", ()))
        self.assert_fault("shown", claim, ("low", (2, 0)), ("walk", ()))
        for height in (FAR + 1, -FAR - 1, True, None, "0", 10 ** 61):
            self.assert_papers("shown", claim, ("low", (height, 0)), ("low", (0, height)))

    def test_forms_of_walks(self):
        right = ("on", (("on", (OUT,)),))
        self.assert_fault("shown", self.ROW_CLAIM, right, None)
        self.assert_papers(
            "shown", self.ROW_CLAIM, None, (), "out", ["out"], ("Out",), ("out", ()), ("on",), ("on", ()),
            ("on", (OUT, OUT)),
            ("on", [OUT]), ("on", OUT), ("on", (None,)), ("on", (OUT,), ()), ("low",), ("low", ()), ("low", (0, 0)),
            ("low", (0,) * 4), ("low", [0, 0, 0]), ("low", (0, 0, 0), ()), ("low", 0), list(right),
            ("on", (list(right[1][0]),)),
            ("on", (("on", (("on", (OUT,)),)),)), ("walk", right), STATE,
        )
        # A wrong form behind a wrong condition.
        self.assert_papers("shown", ("bound", TWINS, (9, 9, 9)), ("on", (OUT, OUT, ("on", (OUT,)))),
                           ("on", (OUT, OUT, None)))

    def test_states(self):
        claim = ("bound", CROSS, (0, 0, 1, 0, -1))
        self.assert_fault("broken", claim, ((1, 1, 1, 1, 1), (0, 0, 0, 0)), ("state",))
        self.assert_fault("broken", claim, STATE, ("sum",))
        self.assert_fault("broken", claim, ((1, 8, 4, 6, 2), (3, 1, 2, 0)), ("sum",))
        self.assert_fault("broken", claim, decide_amount(("within", CROSS, 2, (4,)))[2], None)
        for weights, fault in (((0,) * 5, ("sum",)), ((0, 0, 1, 0, 0), None), ((-1, 0, 3, 0, 0), ("sum",)),
                               ((-1, 0, 4, 0, 0), None),
                               ((99, 0, 0, -99, -33), ("sum",)), ((99, 0, 0, -99, 0), None),
                               ((0, 0, -1, 0, 0), ("sum",))):
            self.assert_fault("broken", ("bound", CROSS, weights), STATE, fault)
        self.assert_fault("broken", ("bound", PAIR, (1,)), ((1,), (1, 0)), None)
        self.assert_fault("broken", ("bound", PAIR, (0,)), ((1,), (1, 0)), ("sum",))
        self.assert_papers("broken", claim, OUT, ("on", ()), None, STATE[:1], (STATE[0], STATE[1][:3]))


class Effect(Rows):
    STEPS = (("behind", 1), ("behind", 2), ("beside", 4, 5))

    def test_faults_in_their_sequence(self):
        claim = ("effect", SQUARE, 0, 1, 0)
        self.assert_fault("shown", claim, self.STEPS, None)
        self.assert_fault("broken", claim, self.STEPS, ("effect",))
        for d in (1, -1):
            self.assert_fault("shown", claim[:4] + (d,), self.STEPS, ("effect",))
            self.assert_fault("broken", claim[:4] + (d,), self.STEPS, None)
        for verdict in ("shown", "broken"):
            for k in range(3):
                self.assert_fault(verdict, claim, self.STEPS[:k], ("end",))
            self.assert_fault(verdict, claim, self.STEPS[:2] + (("beside", 0, 1),), ("step", 2))
            self.assert_fault(verdict, claim, self.STEPS[2:], ("step", 0))
            self.assert_fault(verdict, claim, self.STEPS + self.STEPS[:1], ("step", 3))

    def test_all_effects_of_a_nested_mine(self):
        steps = (("beside", 1, 2), ("behind", 2), ("beside", 4, 7), ("behind", 1), ("behind", 3))
        effects = {(1, 2): -1, (1, 3): 1, (1, 4): -1, (3, 4): -1, (0, 1): 1, (0, 5): 1, (4, 5): 1, (2, 2): 1, (0, 0): 1}
        for (v, w), effect in effects.items():
            for d in (1, 0, -1):
                for claim in (("effect", NESTED, v, w, d), ("effect", NESTED, w, v, d)):
                    self.assert_fault("shown", claim, steps, None if d == effect else ("effect",))
                    self.assert_fault("broken", claim, steps, ("effect",) if d == effect else None)

    def test_idle_ways(self):
        # The hung part is reduced by itself before it is hung; its ways have no effect whatever joins them.
        steps = (("behind", 3), ("beside", 4, 7), ("hung", 1, (3, 4)), ("hung", 0, (5,)), ("hung", 2, (6,)),
                 ("behind", 1))
        for v, w in ((2, 3), (3, 3), (3, 4), (2, 0), (0, 5), (5, 6), (6, 6)):
            self.assert_fault("shown", ("effect", HANGING, v, w, 0), steps, None)
            self.assert_fault("broken", ("effect", HANGING, v, w, 1), steps, None)
            self.assert_fault("shown", ("effect", HANGING, v, w, 1), steps, ("effect",))
        self.assert_fault("shown", ("effect", HANGING, 0, 1, 1), steps, None)
        self.assert_fault("shown", ("effect", HANGING, 1, 1, 1), steps, None)

    def test_how_many_and_which_numbers(self):
        claim = ("effect", SQUARE, 0, 1, 0)
        for verdict in ("shown", "broken"):
            self.assert_fault(verdict, claim, (("beside", 0, 1),) * 40, ("step", 0))
            self.assert_fault(verdict, claim, self.STEPS + (("beside", 0, 60),) * 37, ("step", 3))
            self.assert_fault(verdict, claim, (("beside", 59, 60),), ("step", 0))
            self.assert_papers(
                verdict, claim, (("beside", 0, 1),) * 41, (("beside", 0, 61),), (("beside", 1, 0),),
                (("beside", 0, 0),),
                (("behind", 0),), (("hung", 0, ()),), (("hung", 1, (1, 2)),), None, list(self.STEPS), ((),), (None,),
                self.STEPS + (("behind", True),), STATE, ("end",),
            )


class Values(unittest.TestCase):
    def assert_told(self, certificate):
        self.assertEqual(first_amount_fault(certificate), amount_fault(certificate), certificate)

    def test_one_part_of_the_paper_changed(self):
        seen = set()
        for claim in AMOUNT_CLAIMS + (("bound", TWINS, (0, -1, -2)), ("effect", SQUARE, 0, 3, 0),
                                      ("bound", ROW, (5, -5))):
            verdict, _, paper = decide_amount(claim)
            for value in variants(paper, ODD + (OUT, ("on", ()), ("low", (0, 0)))):
                for word in (verdict, OTHER[verdict]):
                    self.assert_told((word, claim, value))
                    fault = first_amount_fault((word, claim, value))
                    seen.add((claim[0], word, fault and fault[0]))
        self.assertLessEqual({
            ("within", "shown", "paper"), ("within", "shown", "lock"), ("within", "broken", None),
            ("within", "broken", "paper"),
            ("within", "broken", "state"), ("bound", "shown", "paper"), ("bound", "shown", "walk"),
            ("bound", "shown", None),
            ("bound", "broken", "paper"), ("bound", "broken", "state"), ("effect", "shown", "paper"),
            ("effect", "shown", "step"),
            ("effect", "shown", None), ("effect", "broken", "paper"), ("effect", "broken", "effect"),
            ("effect", "shown", "end"),
        }, seen)

    def test_papers_of_other_claims(self):
        claims = AMOUNT_CLAIMS + (("within", HANGING, 0, (1,)), ("bound", ROW, (1, -1)), ("effect", ROW, 0, 1, 0))
        papers = [decide_amount(claim)[2] for claim in claims]
        papers += [decide(("can", CROSS, ()))[2], decide(("plain", BRIDGE))[2], decide(("plain", SQUARE))[2]]
        for claim in claims:
            for paper in papers:
                for verdict in OTHER:
                    self.assert_told((verdict, claim, paper))
                    self.assert_told((verdict, claim, (paper,)))
                    self.assert_told((verdict, claim, ("on", (paper,))))

    def test_verdicts_and_claims_with_a_part_exchanged(self):
        for claim in AMOUNT_CLAIMS:
            verdict, _, paper = decide_amount(claim)
            for value in variants(verdict):
                self.assert_told((value, claim, paper))
            for value in variants(claim, ODD[:8] + ODD[13:16]):
                self.assert_told((verdict, value, paper))

    def test_values_of_every_kind(self):
        for value in values_of_every_kind() + long_values() + [nested(96, ()), nested(97, "on")]:
            self.assert_told(value)
            self.assert_told((value, value, value))
            self.assert_told(("shown", value, ()))
            for claim in AMOUNT_CLAIMS:
                for verdict in OTHER:
                    for paper in (value, (value,), (value, value), ("low", value), ("on", value), (3, value)):
                        self.assert_told((verdict, claim, paper))

    def test_drawn_certificates_with_a_part_exchanged(self):
        kinds = {}
        for mine, numbers in random_mines(801, 80):
            ways = range(len(mine[1]))
            w = numbers.below(len(ways))
            claims = [("within", mine, w, tuple(k for k in ways if k != w and numbers.below(2))),
                      ("bound", mine, tuple(max(-99, numbers.below(199) - 179) for _ in ways))]
            if makes_plain(mine):
                claims.append(("effect", mine, w, numbers.below(len(ways)), numbers.below(3) - 1))
            for claim in claims:
                verdict, _, paper = decide_amount(claim)
                self.assertIsNone(first_amount_fault((verdict, claim, paper)))
                self.assertIsNotNone(first_amount_fault((OTHER[verdict], claim, paper)))
                self.assert_told((OTHER[verdict], claim, paper))
                changed = [(verdict, claim, with_drawn_change(paper, numbers)) for _ in range(12)]
                for certificate in changed + [("shown", claim, drawn_walk(mine, numbers, ())) for _ in range(3)]:
                    self.assert_told(certificate)
                    fault = first_amount_fault(certificate)
                    kinds[fault and fault[0]] = kinds.get(fault and fault[0], 0) + 1
        for word in (None, "paper", "state", "lock", "walk", "step", "end"):
            self.assertGreater(kinds.get(word, 0), 1, word)


def drawn_reductions(mine, numbers):
    """Drawn reductions that can be done, until a single joint is left."""
    steps = ()
    options = doable_reductions(mine, steps)
    while options:
        steps += (options[numbers.below(len(options))],)
        options = doable_reductions(mine, steps)
    return steps


class Promises(unittest.TestCase):
    def test_no_certificate_with_the_other_verdict(self):
        numbers = Numbers(802)
        for k in range(30):
            mine = (CROSS, SQUARE, DOUBLE, HANGING)[k] if k < 4 else small_mine(numbers, 6)
            ways = range(len(mine[1]))
            claims = [("within", mine, w, tuple(k for k in ways if k != w and numbers.below(2))) for w in ways]
            claims += [("bound", mine, tuple(numbers.below(7) - 4 for _ in ways)) for _ in range(3)]
            if makes_plain(mine):
                claims += [("effect", mine, 0, len(ways) - 1, d) for d in (1, 0, -1)]
            certificates = [decide_amount(claim) for claim in claims]
            papers = [paper for _, _, paper in certificates]
            papers += [with_drawn_change(paper, numbers) for paper in papers for _ in range(4)]
            papers += [drawn_walk(mine, numbers, ()) for _ in range(20)]
            for verdict, claim, _ in certificates:
                for paper in papers:
                    self.assertIsNotNone(first_amount_fault((OTHER[verdict], claim, paper)), (claim, paper))

    def test_the_checker_searches_no_routes_and_no_states(self):
        claims = [claim for claim in AMOUNT_CLAIMS if claim[0] != "effect"]
        certificates = [decide_amount(claim) for claim in claims]
        for one in (mock.patch.object(search.Search, "__init__", side_effect=AssertionError),
                    mock.patch.object(cases, "Search", side_effect=AssertionError),
                    mock.patch.object(routes, "routes_on", side_effect=AssertionError),
                    mock.patch.object(plain, "next_reduction", side_effect=AssertionError)):
            one.start()
            self.addCleanup(one.stop)
        for certificate in certificates:
            self.assertIsNone(first_amount_fault(certificate))
            self.assertIsNotNone(first_amount_fault((OTHER[certificate[0]],) + certificate[1:]))

    def test_any_reductions_tell_the_same_effects(self):
        numbers = Numbers(804)
        for mine in (SQUARE, DOUBLE, NESTED, HANGING) + tuple(drawn_plain_mine(numbers) for _ in range(12)):
            effects = effects_of(mine)
            for _ in range(2):
                steps = drawn_reductions(mine, numbers)
                for v, row in enumerate(effects):
                    for w, effect in enumerate(row):
                        d = numbers.below(3) - 1
                        fault = None if d == effect else ("effect",)
                        self.assertEqual(first_amount_fault(("shown", ("effect", mine, v, w, d), steps)), fault)
                        self.assertEqual(amount_fault(("shown", ("effect", mine, v, w, d), steps)), fault)

    def test_nothing_is_changed_and_answers_stay(self):
        for claim in AMOUNT_CLAIMS:
            verdict, _, paper = decide_amount(claim)
            for certificate in ((verdict, claim, paper), (OTHER[verdict], claim, paper), [verdict, claim, paper],
                                (verdict, claim, [paper, {"a": [1]}])):
                before = copy.deepcopy(certificate)
                first = first_amount_fault(certificate)
                self.assertEqual(certificate, before)
                self.assertEqual(first_amount_fault(before), first)

    def test_the_largest_certificates_take_no_long(self):
        numbers = Numbers(803)
        certificates = []
        for mine in (FULL, LADDER, WHEEL, TURNED, LINE, MANY_ROUTES) + tuple(full_mine(numbers) for _ in range(30)):
            count = len(mine[1])
            certificates += [decide_amount(claim) for claim in (
                ("bound", mine, (-1,) * count), ("bound", mine, (1,) * count),
                ("within", mine, 0, tuple(range(1, count))))]
        for mine in [drawn_plain_mine(numbers) for _ in range(30)]:
            certificates.append(decide_amount(("effect", mine, 0, 1, 1)))
        began = time.perf_counter()
        for certificate in certificates:
            self.assertIsNone(first_amount_fault(certificate))
        self.assertLess(time.perf_counter() - began, 5)


if __name__ == "__main__":
    unittest.main()
