"""windways.facts: facts, opposites, rings and stuck places."""

import copy
import unittest
from itertools import product

from tests import told
from tests.samples import (
    BACKWARD_PAIR, BIG, BRIDGE, CROSS, FULL, HANGING, JOINED, LINE, NOT_JOINED, PAIR, ROW, SPLIT, TWINS, UNJOINED,
    Numbers, drawn_facts, random_mines,
)
from tests.variants import long_values, nested, values_of_every_kind, variants
from windways.errors import InvalidFacts
from windways.facts import facts_fit, is_ring, opposite_of, require_facts, ring_of, stuck_places


def told_index(mine, value):
    """The index of InvalidFacts, or False if the value is a tuple of facts."""
    if type(value) is not tuple or len(value) > 12:
        return None
    return next((k for k, fact in enumerate(value) if not told.is_fact(mine, fact)), False)


class RequireFacts(unittest.TestCase):
    def assert_told(self, mine, value):
        index = told_index(mine, value)
        before = copy.deepcopy(value)
        if index is False:
            self.assertIs(require_facts(mine, value), value)
        else:
            with self.assertRaises(InvalidFacts) as caught:
                require_facts(mine, value)
            kept = caught.exception.index
            self.assertEqual((kept, type(kept)), (index, type(index)), value)
        self.assertEqual(value, before)

    def test_facts_are_returned_themselves(self):
        for facts in ((), ((0, 1, 1),), ((0, 3, 0), (3, 0, 0)), ((2, 1, 1), (1, 2, 1), (2, 1, 1))):
            self.assertIs(require_facts(BRIDGE, facts), facts)
            self.assertIs(require_facts(value=facts, mine=BRIDGE), facts)

    def test_at_most_twelve(self):
        fact = (0, 1, 1)
        self.assertEqual(require_facts(BRIDGE, (fact,) * 12), (fact,) * 12)
        for value in ((fact,) * 13, (fact,) * 20, (None,) * 13, (fact,) * 500000):
            with self.assertRaises(InvalidFacts) as caught:
                require_facts(BRIDGE, value)
            self.assertIsNone(caught.exception.index)

    def test_values_of_every_kind(self):
        for value in values_of_every_kind():
            self.assert_told(BRIDGE, value)
            self.assert_told(BRIDGE, (value,))
            self.assert_told(BRIDGE, ((0, 1, 1), (1, 0, 0), value, value))
            self.assert_told(BRIDGE, ((0, 1, 1), (0, 1, value)))
            self.assert_told(BRIDGE, ((value, 1, 1),))
            self.assert_told(BRIDGE, ((0, value, 1),))

    def test_long_values(self):
        for value in long_values():
            for whole in (value, (value,), ((0, 1, 1), (0, value, 1))):
                self.assert_told(BRIDGE, whole)

    def test_one_part_changed(self):
        facts = ((0, 1, 1), (3, 2, 0), (1, 0, 0), (0, 1, 1))
        self.assert_told(BRIDGE, facts)
        for value in variants(facts):
            self.assert_told(BRIDGE, value)

    def test_true_is_no_1_and_false_no_0(self):
        for value in ((0, 1, True), (0, 1, False), (True, 2, 1), (False, 2, 1), (2, True, 0), (2, False, 0)):
            with self.assertRaises(InvalidFacts) as caught:
                require_facts(BRIDGE, ((2, 3, 1), value))
            self.assertEqual(caught.exception.index, 1)

    def test_places_are_those_of_the_mine(self):
        for mine in (PAIR, ROW, BRIDGE, FULL) + NOT_JOINED:
            last = mine[0] - 1
            self.assertEqual(require_facts(mine, ((0, last, 1), (last, 0, 0))), ((0, last, 1), (last, 0, 0)))
            for fact in ((0, last + 1, 1), (last + 1, 0, 0), (-1, 0, 1), (0, 0, 1), (last, last, 0)):
                with self.assertRaises(InvalidFacts) as caught:
                    require_facts(mine, ((0, last, 1), (0, 1, 0), fact))
                self.assertEqual(caught.exception.index, 2)


class Opposites(unittest.TestCase):
    def test_opposites(self):
        self.assertEqual(opposite_of((0, 1, 1)), (1, 0, 0))
        self.assertEqual(opposite_of((5, 2, 0)), (2, 5, 1))
        self.assertEqual(opposite_of(fact=(7, 0, 1)), (0, 7, 0))

    def test_just_one_of_both_holds(self):
        for x, y, s in product(range(4), range(4), (0, 1)):
            if x != y:
                fact = (x, y, s)
                self.assertEqual(opposite_of(opposite_of(fact)), fact)
                for levels in product(range(3), repeat=4):
                    self.assertIs(facts_fit((fact,), levels), not facts_fit((opposite_of(fact),), levels))


class Fit(unittest.TestCase):
    def test_facts_that_fit(self):
        self.assertIs(facts_fit((), (0, 0)), True)
        self.assertIs(facts_fit(((0, 1, 1),), (1, 0)), True)
        self.assertIs(facts_fit(((0, 1, 1),), (0, 0)), False)
        self.assertIs(facts_fit(((0, 1, 0),), (0, 0)), True)
        self.assertIs(facts_fit(((0, 1, 0),), (-1, 0)), False)
        self.assertIs(facts_fit(levels=(2, 1, 0), facts=((0, 1, 1), (1, 2, 1), (0, 2, 0))), True)
        self.assertIs(facts_fit(((0, 1, 1), (1, 2, 1), (2, 0, 0)), (2, 1, 0)), False)

    def test_numbers_of_any_size(self):
        self.assertIs(facts_fit(((0, 1, 1), (1, 2, 1)), (BIG, BIG - 1, -BIG)), True)
        self.assertIs(facts_fit(((0, 1, 1),), (-BIG, -BIG)), False)
        self.assertIs(facts_fit(((0, 1, 0), (1, 0, 0)), (-BIG, -BIG)), True)

    def test_drawn_facts(self):
        numbers = Numbers(31)
        seen = set()
        for _ in range(500):
            facts = drawn_facts(BRIDGE, numbers, numbers.below(4))
            levels = tuple(numbers.below(4) for _ in range(4))
            seen.add(told.fits(facts, levels))
            self.assertIs(facts_fit(facts, levels), told.fits(facts, levels))
        self.assertEqual(seen, {True, False})


class Rings(unittest.TestCase):
    def assert_ring(self, mine, facts):
        ring = ring_of(mine, facts)
        self.assertIs(type(ring), tuple)
        self.assertTrue(told.is_ring_of(set(facts) | {told.fan(mine)}, ring), (mine, facts, ring))
        self.assertLessEqual(len(ring), 60)
        self.assertIs(is_ring(mine, facts, ring), True)

    def test_the_fans_fact_alone_makes_no_ring(self):
        for mine in JOINED + NOT_JOINED:
            self.assertIsNone(ring_of(mine, ()))
            self.assertIsNone(ring_of(facts=((mine[2], mine[3], 0),), mine=mine))

    def test_rings_with_the_fans_fact(self):
        self.assertEqual(ring_of(PAIR, ((1, 0, 0),)), ((0, 1, 1), (1, 0, 0)))
        self.assert_ring(BACKWARD_PAIR, ((0, 1, 1),))
        self.assert_ring(LINE, ((7, 3, 0), (3, 0, 0)))
        self.assertIsNone(ring_of(LINE, ((0, 3, 1), (3, 7, 1))))

    def test_rings_without_the_fans_fact(self):
        self.assert_ring(BRIDGE, ((1, 2, 1), (2, 1, 0)))
        self.assert_ring(BRIDGE, ((1, 2, 1), (2, 1, 1)))
        self.assertIsNone(ring_of(BRIDGE, ((1, 2, 0), (2, 1, 0))))

    def test_a_fact_given_twice(self):
        self.assertIsNone(ring_of(BRIDGE, ((1, 2, 1), (1, 2, 1))))
        self.assert_ring(BRIDGE, ((1, 2, 1), (2, 1, 0), (1, 2, 1), (2, 1, 0)))

    def test_every_ring_of_one_fact_and_the_fans(self):
        for mine in JOINED + NOT_JOINED:
            for x, y, s in product(range(mine[0]), range(mine[0]), (0, 1)):
                if x != y:
                    self.assertEqual(ring_of(mine, ((x, y, s),)) is None, (x, y) != (mine[3], mine[2]))

    def test_drawn_facts(self):
        seen = set()
        for mine, numbers in random_mines(32, 200):
            for many in (2, 4, 8, 12, 20):
                facts = drawn_facts(mine, numbers, many)
                seen.add((many, told.has_ring(mine, facts)))
                if told.has_ring(mine, facts):
                    self.assert_ring(mine, facts)
                else:
                    self.assertIsNone(ring_of(mine, facts))
        self.assertGreater(len(seen), 8)

    def test_a_long_way_round(self):
        around = tuple((k, (k + 1) % 8, 0) for k in range(8))
        self.assert_ring(LINE, around)
        self.assertIsNone(ring_of(LINE, around[:7]))
        self.assert_ring((8, ((0, 1),), 0, 3), around[:3] + around[3:5] + ((5, 3, 1),))

    def test_more_facts_than_the_limit(self):
        numbers = Numbers(33)
        for many in (13, 20, 21, 40):
            facts = drawn_facts(FULL, numbers, many)
            self.assertEqual(ring_of(FULL, facts) is not None, told.has_ring(FULL, facts))


class IsRing(unittest.TestCase):
    FACTS = ((2, 0, 0), (0, 1, 1), (1, 0, 0), (1, 2, 0), (2, 1, 0))

    def assert_told(self, mine, facts, value):
        right = type(value) is tuple and all(told.is_fact(mine, fact) for fact in value)
        right = right and told.is_ring_of(set(facts) | {told.fan(mine)}, value)
        before = copy.deepcopy(value)
        self.assertIs(is_ring(mine, facts, value), right, value)
        self.assertEqual(value, before)

    def test_rings_by_their_facts(self):
        self.assertIs(is_ring(ROW, self.FACTS, ((0, 1, 1), (1, 0, 0))), True)
        self.assertIs(is_ring(ROW, self.FACTS, ((1, 0, 0), (0, 1, 1))), True)
        self.assertIs(is_ring(ROW, self.FACTS, ((0, 1, 1), (1, 2, 0), (2, 0, 0))), True)
        self.assertIs(is_ring(ROW, self.FACTS, ((0, 1, 1), (1, 2, 0))), False)
        self.assertIs(is_ring(ROW, self.FACTS, ((0, 1, 1), (2, 0, 0))), False)
        self.assertIs(is_ring(ROW, self.FACTS, ((0, 1, 1),)), False)
        self.assertIs(is_ring(ROW, self.FACTS, ((0, 1, 1), (1, 0, 1))), False)

    def test_the_fans_fact_counts(self):
        self.assertIs(is_ring(ROW, ((2, 0, 0),), ((0, 2, 1), (2, 0, 0))), True)
        self.assertIs(is_ring(ROW, ((2, 0, 0),), ((0, 2, 0), (2, 0, 0))), False)
        self.assertIs(is_ring(ROW, (), ((0, 2, 1), (2, 0, 0))), False)

    def test_the_empty_ring(self):
        for facts in ((), self.FACTS):
            self.assertIs(is_ring(ROW, facts, ()), False)

    def test_rings_without_a_fact_above(self):
        self.assertIs(is_ring(ROW, self.FACTS, ((1, 2, 0), (2, 1, 0))), False)
        self.assertIs(is_ring(ROW, self.FACTS, ((1, 2, 0), (2, 1, 0)) * 30), False)

    def test_a_fact_more_than_once(self):
        both = ((1, 2, 0), (2, 1, 0))
        self.assertIs(is_ring(ROW, self.FACTS, both * 3 + ((1, 0, 0), (0, 1, 1))), True)
        self.assertIs(is_ring(ROW, self.FACTS, both + both[:1] + ((1, 0, 0), (0, 1, 1))), False)
        self.assertIs(is_ring(ROW, self.FACTS + self.FACTS, ((0, 1, 1), (1, 0, 0)) * 2), True)

    def test_rings_of_sixty_facts_and_longer_ones(self):
        turn = ((0, 2, 1), (2, 0, 0))
        for many in (29, 30, 31, 1000, 200000):
            self.assertIs(is_ring(ROW, self.FACTS, turn * many), True)
            self.assertIs(is_ring(ROW, self.FACTS, turn * many + turn[:1]), False)
            self.assertIs(is_ring(ROW, self.FACTS, turn * many + ((0, True, 1),)), False)
            self.assertIs(is_ring(ROW, self.FACTS, list(turn * many)), False)

    def test_true_is_no_1(self):
        for ring in (((0, 1, True), (1, 0, 0)), ((0, True, 1), (1, 0, 0)), ((0, 1, 1), (1, False, 0)),
                     ((0, 1, 1), (1, 0, False)), ((False, 1, 1), (1, 0, 0))):
            self.assertIs(is_ring(ROW, self.FACTS, ring), False)

    def test_values_of_every_kind(self):
        for value in values_of_every_kind():
            self.assert_told(ROW, self.FACTS, value)
            self.assert_told(ROW, self.FACTS, (value,))
            self.assert_told(ROW, self.FACTS, ((0, 1, 1), (1, 0, value)))
            self.assert_told(ROW, self.FACTS, ((0, 1, 1), (1, value, 0)))
            self.assert_told(ROW, self.FACTS, ((0, 1, 1), value, (1, 0, 0)))

    def test_one_part_changed(self):
        both = ((1, 2, 0), (2, 1, 0))
        for ring in (((0, 1, 1), (1, 2, 0), (2, 0, 0)), ((0, 1, 1), (1, 0, 0)), both + ((1, 0, 0), (0, 1, 1))):
            self.assert_told(ROW, self.FACTS, ring)
            for value in variants(ring):
                self.assert_told(ROW, self.FACTS, value)

    def test_long_values(self):
        for value in long_values():
            for whole in (value, (value,), ((0, 1, 1), (1, 0, value))):
                self.assert_told(ROW, self.FACTS, whole)

    def test_deep_values(self):
        for empty in ((), None, 0):
            deep = nested(98, empty)
            for value in (deep, (deep, deep), ((0, 1, deep),), ((deep, 1, 1), (1, 0, 0))):
                self.assertIs(is_ring(mine=ROW, ring=value, facts=self.FACTS), False)

    def test_mines_that_are_not_joined(self):
        self.assertIs(is_ring(UNJOINED, ((1, 2, 0), (2, 0, 0)), ((0, 1, 1), (1, 2, 0), (2, 0, 0))), True)
        self.assertIs(is_ring(UNJOINED, ((1, 2, 0),), ((0, 1, 1), (1, 2, 0), (2, 0, 0))), False)


class StuckPlaces(unittest.TestCase):
    def test_air_arrives_and_none_can_leave(self):
        self.assertEqual(stuck_places(ROW, ((0, 1, 1), (2, 1, 0))), (1,))
        self.assertEqual(stuck_places(ROW, ((0, 1, 1), (2, 1, 1))), (1,))
        self.assertEqual(stuck_places(ROW, ((0, 1, 0), (2, 1, 1))), (1,))
        self.assertEqual(stuck_places(ROW, ((0, 1, 0), (2, 1, 0))), ())
        self.assertEqual(stuck_places(ROW, ((0, 1, 1),)), ())

    def test_air_leaves_and_none_can_arrive(self):
        self.assertEqual(stuck_places(ROW, ((1, 0, 1), (1, 2, 0))), (1,))
        self.assertEqual(stuck_places(ROW, ((1, 0, 0), (1, 2, 0))), ())
        self.assertEqual(stuck_places(ROW, ((1, 0, 1), (2, 1, 0))), ())
        self.assertEqual(stuck_places(facts=((1, 0, 1), (1, 2, 1)), mine=ROW), (1,))

    def test_only_facts_that_are_given_count(self):
        self.assertEqual(stuck_places(ROW, ((0, 2, 1), (2, 1, 0))), ())
        self.assertEqual(stuck_places(CROSS, ((1, 0, 1), (2, 1, 1), (2, 3, 1))), ())
        self.assertEqual(stuck_places(CROSS, ((2, 1, 1), (2, 3, 1), (2, 0, 1))), (2,))

    def test_inlet_and_outlet_are_never_stuck(self):
        self.assertEqual(stuck_places(PAIR, ((1, 0, 1), (0, 1, 1))), ())
        self.assertEqual(stuck_places(BRIDGE, ((1, 0, 1), (2, 0, 1))), ())
        self.assertEqual(stuck_places(BRIDGE, ((0, 1, 1), (0, 2, 1))), ())
        self.assertEqual(stuck_places(BRIDGE, ((3, 1, 1), (3, 2, 1))), ())

    def test_several_ways_between_two_places(self):
        mine = (3, ((0, 1), (1, 0), (0, 1), (1, 2), (2, 1)), 0, 2)
        self.assertEqual(stuck_places(mine, ((0, 1, 1), (2, 1, 0))), (1,))
        self.assertEqual(stuck_places(mine, ((0, 1, 1),)), ())
        self.assertEqual(stuck_places(TWINS, ((0, 1, 1), (1, 0, 1))), ())

    def test_a_place_at_which_only_one_way_ends(self):
        mine = (3, ((0, 1), (0, 2)), 0, 2)
        self.assertEqual(stuck_places(mine, ((0, 1, 1),)), (1,))
        self.assertEqual(stuck_places(mine, ((1, 0, 1),)), (1,))
        self.assertEqual(stuck_places(mine, ((1, 0, 0), (0, 1, 0))), ())
        self.assertEqual(stuck_places(HANGING, ((3, 1, 1), (3, 4, 0), (0, 5, 1), (6, 2, 1))), (3, 5, 6))

    def test_places_without_ways_are_not_stuck(self):
        mine = (4, ((0, 1),), 0, 3)
        self.assertEqual(stuck_places(mine, ((0, 2, 1), (3, 2, 1), (2, 1, 1))), ())
        self.assertEqual(stuck_places(mine, ((0, 1, 1),)), (1,))

    def test_mines_that_are_not_joined(self):
        self.assertEqual(stuck_places(UNJOINED, ((2, 3, 1),)), (2, 3))
        self.assertEqual(stuck_places(SPLIT, ((3, 4, 1), (3, 5, 0), (4, 5, 1), (2, 1, 1))), (3,))

    def test_every_single_way_at_a_place(self):
        for mine in JOINED:
            for x in told.told_inner(mine):
                near = told.neighbours(mine, x)
                for facts in (tuple((z, x, 1) for z in near), tuple((x, z, 1) for z in near)):
                    self.assertIn(x, stuck_places(mine, facts))
                    for z in near:
                        fewer = tuple(fact for fact in facts if z not in fact)
                        self.assertNotIn(x, stuck_places(mine, fewer))

    def test_drawn_facts(self):
        many_stuck = set()
        for mine, numbers in random_mines(34, 200):
            for many in (0, 3, 6, 12, 20):
                facts = drawn_facts(mine, numbers, many)
                said = set(facts) | {told.fan(mine)}
                expected = tuple(x for x in told.told_inner(mine) if told.is_stuck(mine, said, x))
                answer = stuck_places(mine, facts)
                self.assertIs(type(answer), tuple)
                self.assertEqual(answer, expected, (mine, facts))
                many_stuck.add(len(answer))
        self.assertGreater(len(many_stuck), 3)


if __name__ == "__main__":
    unittest.main()
