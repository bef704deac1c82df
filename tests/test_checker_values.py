"""windways.checker: certificates with parts exchanged at any depth, values of every kind, and what the checker does."""

import copy
import time
import unittest
from unittest import mock

from tests import told
from tests.certificates import certificate_fault
from tests.samples import (
    BRIDGE, CROSS, CROWDED, FULL, HANGING, LADDER, LINE, PAIR, ROW, TWINS, WHEEL, Numbers, drawn_facts, drawn_pair,
    full_mine, random_mines, small_mine,
)
from tests.test_claims import VALID
from tests.test_looks import STAR
from tests.variants import ODD, long_values, nested, values_of_every_kind, variants
from windways import cases, plain, routes, search
from windways.checker import first_fault
from windways.claims import decide

OTHER = {"shown": "broken", "broken": "shown"}
SMALL = (
    ("can", ROW, ((0, 1, 1),)),
    ("can", ROW, ((2, 1, 0),)),
    ("sure", ROW, (), (0, 1, 1)),
    ("sure", TWINS, (), (1, 0, 1)),
    ("count", ROW, (), 1),
    ("count", PAIR, (), 0),
    ("way", ROW, 1, 1),
    ("way", ROW, 1, -1),
    ("plain", ROW),
    ("plain", BRIDGE),
    ("looks", BRIDGE, (), ((1, 2),), (1, 2), 1),
    ("looks", BRIDGE, (), ((1, 2),), (1, 2), 0),
    ("looks", BRIDGE, (), ((1, 2),), (1, 2), None),
    ("looks", BRIDGE, (), ((0, 1),), (1, 2), None),
    ("looks", BRIDGE, (), ((0, 1),), (1, 2), 1),
    ("looks", ROW, ((2, 0, 0),), (), (1, 2), 0),
    ("doors", BRIDGE, ((4, 3), (0, 2)), (1,)),
    ("doors", BRIDGE, ((4, 3), (0, 2)), (0,)),
    ("doors", BRIDGE, ((4, 3), (0, 2)), ()),
    ("doors", BRIDGE, (), None),
    ("undrawn", ROW, ((2, 1, 0),), None),
    ("undrawn", ROW, ((1, 2, 0),), (0, 1)),
    ("undrawn", ROW, ((1, 2, 0),), (0, 2)),
    ("undrawn", ROW, ((1, 2, 0),), None),
    ("undrawn", ROW, ((2, 0, 0),), (1, 2)),
    ("alike", PAIR, PAIR),
    ("alike", ROW, (3, ((0, 1), (2, 1)), 0, 2)),
)


def drawn_claims(mine, numbers):
    """A claim of each kind about a mine, true ones and false ones."""
    facts = drawn_facts(mine, numbers, numbers.below(4))
    w = numbers.below(len(mine[1]))
    found = [("can", mine, facts), ("sure", mine, facts) + drawn_facts(mine, numbers, 1), ("plain", mine)]
    found += [("way", mine, w, 1), ("way", mine, w, -1)]
    doors = tuple((v, numbers.below(3)) for v in range(min(3, len(mine[1]))))
    for choice in (None, (), (0,), tuple(range(len(doors)))):
        found.append(("doors", mine, doors, choice))
    if len(mine[1]) <= 10:
        looks = (drawn_pair(mine, numbers), drawn_pair(mine, numbers))
        turned = (mine[0], (mine[1][0][::-1],) + mine[1][1:], mine[2], mine[3])
        found += [("count", mine, facts, n) for n in (0, 1, 3)] + [("alike", mine, mine), ("alike", mine, turned)]
        found += [("looks", mine, facts, looks, drawn_pair(mine, numbers), n) for n in (None, 0, 1, 2)]
        found += [("undrawn", mine, facts, pair) for pair in (None, (0, 1), tuple(sorted(drawn_pair(mine, numbers))))]
    return found


class Values(unittest.TestCase):
    def assert_told(self, certificate):
        self.assertEqual(first_fault(certificate), certificate_fault(certificate), certificate)

    def test_other_papers_of_small_certificates(self):
        seen = set()
        for claim in SMALL:
            self.assertTrue(told.is_claim(claim), claim)
            verdict, _, paper = decide(claim)
            self.assertIsNone(first_fault((verdict, claim, paper)))
            for value in variants(paper, ODD[:8] + ODD[13:17]):
                for word in (verdict, OTHER[verdict]):
                    self.assert_told((word, claim, value))
                    fault = first_fault((word, claim, value))
                    seen.add((claim[0], word, fault and fault[0]))
        for kind in told.WORDS:
            for verdict in OTHER:
                self.assertIn((kind, verdict, "paper"), seen)
        self.assertGreater(len(seen), 50)

    def test_papers_of_other_claims(self):
        papers = [decide(claim)[2] for claim in SMALL + VALID]
        for claim in SMALL + VALID:
            for paper in papers:
                for verdict in OTHER:
                    self.assert_told((verdict, claim, paper))
                    self.assert_told((verdict, claim, (paper,)))
                    self.assert_told((verdict, claim, ("not", paper)))
                    self.assert_told((verdict, claim, (paper, ())))

    def test_verdicts_and_claims_with_a_part_exchanged(self):
        for claim in SMALL:
            verdict, _, paper = decide(claim)
            for value in variants(verdict):
                self.assert_told((value, claim, paper))
            for value in variants(claim, ODD[:8] + ODD[13:16]):
                self.assert_told((verdict, value, paper))

    def test_values_of_every_kind(self):
        for value in values_of_every_kind() + long_values():
            self.assert_told(value)
            self.assert_told((value, value, value))
            for claim in SMALL:
                for verdict in OTHER:
                    self.assert_told((verdict, claim, value))
                    for word in ("not", "ahead", "fewer", "more", 0, (0, 1)):
                        self.assert_told((verdict, claim, (word, value)))
                        self.assert_told((verdict, claim, (word, value, value)))
            self.assert_told(("shown", value, ()))
            self.assert_told((value, ("plain", PAIR), ()))

    def test_papers_with_long_and_deep_parts(self):
        values = long_values() + [nested(96, ()), nested(97, "ring")]
        for claim in SMALL:
            verdict, _, paper = decide(claim)
            for k in range(len(paper)):
                for value in values:
                    self.assert_told((verdict, claim, paper[:k] + (value,) + paper[k + 1:]))
                    self.assert_told((verdict, claim, paper[:k] + (paper[k:k + 1] + (value,),) + paper[k + 1:]))
        long_ring = ("ring", ((0, 2, 1), (2, 0, 0)) * 2000000)
        self.assert_told(("broken", ("can", ROW, ((2, 0, 0),)), long_ring))

    def test_drawn_certificates_with_a_part_exchanged(self):
        kinds = {}
        for mine, numbers in random_mines(201, 60):
            for claim in drawn_claims(mine, numbers):
                verdict, _, paper = decide(claim)
                self.assertIsNone(first_fault((verdict, claim, paper)), claim)
                other = first_fault((OTHER[verdict], claim, paper))
                self.assertIsNotNone(other)
                self.assert_told((OTHER[verdict], claim, paper))
                for _ in range(12):
                    changed = with_drawn_change(paper, numbers)
                    self.assert_told((verdict, claim, changed))
                    fault = first_fault((verdict, claim, changed))
                    kinds[fault and fault[0]] = kinds.get(fault and fault[0], 0) + 1
        for word in (None, "paper", "state", "tree", "route", "step", "end", "plan", "foe", "break", "pair", "census"):
            self.assertGreater(kinds.get(word, 0), 1, word)


def with_drawn_change(paper, numbers):
    """The paper with one drawn part changed: a number made greater or less, parts exchanged, left out or doubled."""
    if type(paper) is int:
        return paper + (1, -1, 2)[numbers.below(3)]
    if type(paper) is not tuple or not paper:
        return paper
    k = numbers.below(len(paper))
    if numbers.below(8) > 0:
        return paper[:k] + (with_drawn_change(paper[k], numbers),) + paper[k + 1:]
    j = numbers.below(len(paper))
    parts = list(paper)
    parts[j], parts[k] = parts[k], parts[j]
    return (tuple(parts), paper[:k] + paper[k + 1:], paper[:k] + paper[k:k + 1] + paper[k:])[numbers.below(3)]


class Promises(unittest.TestCase):
    def test_no_certificate_with_the_other_verdict(self):
        # Whatever is made of the papers of all claims about a mine, none of them shows what is not true.
        numbers = Numbers(202)
        for k in range(24):
            mine = BRIDGE if k == 0 else CROSS if k == 1 else small_mine(numbers, 5)
            if len(mine[1]) <= 10:
                told_ones = [decide(claim) for claim in drawn_claims(mine, numbers)]
                papers = [paper for _, _, paper in told_ones]
                papers += [part for paper in papers for part in paper if type(part) is tuple]
                papers += [with_drawn_change(paper, numbers) for paper in papers for _ in range(3)]
                papers += [(word, paper) for word in ("not", "fewer", "more") for paper in papers]
                for verdict, claim, _ in told_ones:
                    for paper in papers:
                        self.assertIsNotNone(first_fault((OTHER[verdict], claim, paper)), (claim, paper))

    def test_the_checker_searches_nothing(self):
        certificates = [decide(claim) for claim in SMALL + VALID]
        faults = [first_fault((OTHER[told_one[0]],) + told_one[1:]) for told_one in certificates]
        barred = [
            mock.patch.object(search.Search, "__init__", side_effect=AssertionError),
            mock.patch.object(cases, "Search", side_effect=AssertionError),
            mock.patch.object(routes, "routes_on", side_effect=AssertionError),
            mock.patch.object(plain, "next_reduction", side_effect=AssertionError),
        ]
        for one in barred:
            one.start()
            self.addCleanup(one.stop)
        with self.assertRaises(AssertionError):
            decide(("can", ROW, ()))
        for certificate in certificates:
            self.assertIsNone(first_fault(certificate))
        again = [first_fault((OTHER[told_one[0]],) + told_one[1:]) for told_one in certificates]
        self.assertEqual(again, faults)

    def test_nothing_is_changed_and_answers_stay(self):
        for claim in SMALL + VALID:
            verdict, _, paper = decide(claim)
            for certificate in ((verdict, claim, paper), (OTHER[verdict], claim, paper), [verdict, claim, paper],
                                (verdict, claim, [paper, {"a": [1]}])):
                before = copy.deepcopy(certificate)
                first = first_fault(certificate)
                self.assertEqual(certificate, before)
                self.assertEqual(first_fault(before), first)

    def test_the_largest_certificates_take_no_long(self):
        numbers = Numbers(203)
        certificates = []
        for mine in (FULL, LADDER, WHEEL, CROWDED, HANGING, LINE) + tuple(full_mine(numbers) for _ in range(12)):
            certificates += [decide(claim) for claim in drawn_claims(mine, numbers)]
        ten = (6, WHEEL[1][1:], 0, 5)
        k5 = (5, tuple((a, b) for a in range(5) for b in range(a + 1, 5)), 0, 4)
        for mine in (ten, k5, STAR, (8, LADDER[1][:2] + LADDER[1][3:], 0, 7)):
            looks = ((1, 2), (2, 3))
            for claim in (("count", mine, (), 200), ("alike", mine, mine), ("looks", mine, (), looks, (1, 3), None),
                          ("looks", mine, (), looks, (1, 2), 1), ("undrawn", mine, ((mine[3], mine[2], 0),), None)):
                certificates.append(decide(claim))
        began = time.perf_counter()
        for certificate in certificates:
            self.assertIsNone(first_fault(certificate))
        self.assertLess(time.perf_counter() - began, 8)


if __name__ == "__main__":
    unittest.main()
