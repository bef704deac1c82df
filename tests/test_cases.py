"""windways.cases: trees of cases, and states that fit facts."""

import copy
import time
import unittest
from itertools import product

from tests import told
from tests.samples import (
    BACKWARD_PAIR, BIG, BRIDGE, CROSS, CROWDED, FULL, HANGING, JOINED, LADDER, LINE, PAIR, ROW, TURNED, TWINS, WHEEL,
    Numbers, drawn_facts, drawn_order, full_mine, random_mines, renamed, renamed_facts, small_mine,
)
from tests.variants import ODD, long_values, nested, values_of_every_kind, variants
from windways.cases import is_possible, is_tree, state_for, tree_for

# The tree of point 9.
CROSS_FACTS = ((1, 0, 1),)
TREE_A = ("case", 2, 3, ("stuck", 2), ("ring", ((3, 2, 0), (2, 0, 1), (0, 3, 1))))
TREE_B = ("case", 2, 0, TREE_A, ("ring", ((0, 2, 0), (2, 1, 1), (1, 0, 1))))
TREE_C = ("case", 1, 3, ("stuck", 1), ("ring", ((3, 1, 0), (1, 0, 1), (0, 3, 1))))
CROSS_TREE = ("case", 2, 1, TREE_B, TREE_C)

ROW_FACTS = ((0, 1, 1), (1, 0, 0), (2, 1, 0))
TURN = ((0, 1, 1), (1, 0, 0))


def chain(many, leaf, side):
    """A tree with so many cases on its longest path, along the parts "above" or "rest"."""
    tree = leaf
    for k in range(many):
        x, y = ((0, 1), (1, 2), (2, 0), (1, 0))[k % 4]
        tree = ("case", x, y) + ((tree, leaf) if side == "above" else (leaf, tree))
    return tree


class Answers(unittest.TestCase):
    def assert_tree(self, mine, facts):
        tree = tree_for(mine, facts)
        self.assertTrue(told.is_tree_form(mine, tree), (mine, facts, tree))
        self.assertIsNone(told.tree_fault(mine, facts, tree), (mine, facts, tree))
        self.assertTrue(told.opens_well(mine, facts, tree), (mine, facts, tree))
        self.assertLessEqual(told.most_cases(tree), 2 * len({frozenset(way) for way in mine[1]}))
        self.assertIs(is_tree(mine, facts, tree), True)
        self.assertIsNone(state_for(mine, facts))
        self.assertIs(is_possible(mine, facts), False)

    def assert_state(self, mine, facts):
        state = state_for(mine, facts)
        self.assertTrue(told.is_state_form(mine, state), (mine, facts, state))
        self.assertIsNone(told.state_fault(mine, facts, state), (mine, facts, state))
        self.assertIsNone(tree_for(mine, facts))
        self.assertIs(is_possible(mine, facts), True)

    def assert_decided(self, mine, facts):
        """Either a state or a tree shows by itself that the answer is right."""
        if tree_for(mine, facts) is None:
            self.assert_state(mine, facts)
            return True
        self.assert_tree(mine, facts)
        return False


class Decisions(Answers):
    def test_no_facts(self):
        for mine in JOINED:
            self.assert_state(mine, ())

    def test_known_answers(self):
        self.assert_tree(CROSS, CROSS_FACTS)
        self.assert_tree(ROW, ((0, 1, 1), (2, 1, 0)))
        self.assert_tree(ROW, ((1, 0, 0),))
        self.assert_tree(ROW, ((2, 1, 0),))
        self.assert_state(ROW, ((0, 1, 1), (1, 2, 1)))
        self.assert_tree(BRIDGE, ((1, 0, 0),))
        self.assert_state(BRIDGE, ((1, 2, 1),))
        self.assert_state(BRIDGE, ((1, 2, 0), (2, 1, 0)))
        self.assert_tree(BRIDGE, ((1, 2, 1), (2, 1, 0)))
        self.assert_tree(PAIR, ((1, 0, 0),))
        self.assert_state(BACKWARD_PAIR, ((1, 0, 0), (1, 0, 1)))
        self.assert_tree(BACKWARD_PAIR, ((0, 1, 0),))
        self.assert_tree(TWINS, ((1, 0, 0),))

    def test_parts_that_hang_are_still(self):
        self.assert_state(HANGING, ((3, 1, 0), (1, 3, 0), (4, 3, 0), (5, 0, 0), (0, 5, 0), (2, 6, 0)))
        for fact in ((3, 1, 1), (1, 3, 1), (3, 4, 1), (4, 3, 1), (5, 0, 1), (0, 5, 1), (2, 6, 1), (6, 2, 1)):
            self.assert_tree(HANGING, (fact,))

    def test_facts_without_a_ring_need_not_be_possible(self):
        facts = ((1, 0, 1), (1, 3, 1))
        self.assertFalse(told.has_ring(CROSS, facts))
        self.assert_tree(CROSS, facts)

    def test_a_fact_given_twice(self):
        for facts in (((1, 2, 1),), ((1, 2, 0), (2, 1, 0)), ((1, 0, 1),)):
            self.assertEqual(is_possible(BRIDGE, facts * 2), is_possible(BRIDGE, facts))
            self.assert_decided(BRIDGE, facts * 2)
            self.assert_decided(BRIDGE, facts * 10)

    def test_all_facts_on_two_places(self):
        for mine in (PAIR, BACKWARD_PAIR, TWINS, ROW, BRIDGE, CROSS):
            fitting = told.balanced_levels(mine)
            for x, y, s, t in product(range(mine[0]), range(mine[0]), (0, 1), (0, 1)):
                if x != y:
                    for facts in (((x, y, s),), ((x, y, s), (y, x, t))):
                        expected = any(told.fits(facts, levels) for levels in fitting)
                        self.assertEqual(self.assert_decided(mine, facts), expected)

    def test_all_balanced_levels_of_small_mines(self):
        seen = {True: 0, False: 0}
        numbers = Numbers(41)
        for _ in range(120):
            mine = small_mine(numbers, 5)
            fitting = told.balanced_levels(mine)
            for many in (1, 1, 2, 3, 5, 8):
                facts = drawn_facts(mine, numbers, many)
                expected = any(told.fits(facts, levels) for levels in fitting)
                self.assertEqual(self.assert_decided(mine, facts), expected, (mine, facts))
                seen[expected] += 1
        self.assertGreater(min(seen.values()), 150)

    def test_facts_of_balanced_levels_are_possible(self):
        numbers = Numbers(42)
        for _ in range(30):
            mine = small_mine(numbers, 5)
            for levels in told.balanced_levels(mine)[:10]:
                pairs = [(x, y) for x in range(mine[0]) for y in range(mine[0]) if x < y]
                facts = ()
                for x, y in pairs:
                    facts += told.sign_facts(x, y, told.sign(levels[x] - levels[y]))
                self.assert_state(mine, facts[:20])

    def test_drawn_mines_and_facts(self):
        seen = {True: 0, False: 0}
        for mine, numbers in random_mines(43, 250):
            for many in (1, 2, 4, 7):
                seen[self.assert_decided(mine, drawn_facts(mine, numbers, many))] += 1
        self.assertGreater(min(seen.values()), 100)

    def test_twenty_facts(self):
        numbers = Numbers(44)
        for mine in JOINED:
            state = state_for(mine, ())
            for many in (12, 13, 19, 20):
                facts = []
                while len(facts) < many:
                    facts += [fact for fact in drawn_facts(mine, numbers, 1) if told.fits((fact,), state[1])]
                self.assert_state(mine, tuple(facts))
                worse = (mine[3], mine[2], numbers.below(2))
                self.assert_tree(mine, tuple(facts[1:]) + (worse,))
                self.assert_tree(mine, (worse,) + tuple(facts[1:]))

    def test_a_line_of_eight_places(self):
        for x, y, s in product(range(8), range(8), (0, 1)):
            if x != y:
                self.assertEqual(self.assert_decided(LINE, ((x, y, s),)), x < y)
        self.assertEqual(self.assert_decided((8, LINE[1], 2, 5), ((0, 2, 0), (1, 0, 0), (5, 7, 0))), True)
        self.assertEqual(self.assert_decided((8, LINE[1], 2, 5), ((0, 1, 1),)), False)

    def test_the_names_of_the_places_do_not_matter(self):
        for mine, numbers in random_mines(45, 60):
            names = drawn_order(mine[0], numbers)
            facts = drawn_facts(mine, numbers, 3)
            other = renamed(mine, names)
            order = drawn_order(len(mine[1]), numbers)
            sorted_otherwise = (mine[0], tuple(mine[1][w] for w in order), mine[2], mine[3])
            answer = is_possible(mine, facts)
            self.assertEqual(is_possible(other, renamed_facts(facts, names)), answer)
            self.assertEqual(is_possible(sorted_otherwise, facts), answer)
            self.assertEqual(is_possible(mine, facts[::-1]), answer)

    def test_answers_depend_on_the_arguments_alone(self):
        numbers = Numbers(46)
        asked = [(mine, drawn_facts(mine, numbers, 3)) for mine in JOINED]
        before = [(tree_for(mine, facts), state_for(mine, facts)) for mine, facts in asked]
        after = [(tree_for(mine, facts), state_for(mine, facts)) for mine, facts in reversed(asked)]
        self.assertEqual(before, after[::-1])

    def test_nothing_is_changed(self):
        facts = ((1, 2, 1), (2, 0, 0))
        before = copy.deepcopy((BRIDGE, facts))
        for ask in (tree_for, state_for, is_possible):
            ask(facts=facts, mine=BRIDGE)
        self.assertEqual((BRIDGE, facts), before)

    def test_the_largest_mines_take_no_long(self):
        numbers = Numbers(47)
        began = time.perf_counter()
        for mine in (FULL, CROWDED, LADDER, WHEEL) + tuple(full_mine(numbers) for _ in range(60)):
            for many in (0, 1, 2, 3, 12, 20):
                self.assert_decided(mine, drawn_facts(mine, numbers, many))
        self.assertLess(time.perf_counter() - began, 20)

    def test_a_little_beyond_the_limits(self):
        ways = tuple((k, k + 1) for k in range(9)) + tuple((k, k + 2) for k in range(8))
        numbers = Numbers(48)
        for _ in range(20):
            self.assert_decided((10, ways, 0, 9), drawn_facts((10, ways, 0, 9), numbers, 3))
        self.assert_decided(FULL, drawn_facts(FULL, numbers, 25))


class IsTree(unittest.TestCase):
    def assert_told(self, mine, facts, value):
        before = copy.deepcopy(value)
        self.assertIs(is_tree(mine, facts, value), told.is_right_tree(mine, facts, value), value)
        self.assertEqual(value, before)

    def test_the_tree_of_the_document(self):
        self.assertIs(is_tree(CROSS, CROSS_FACTS, CROSS_TREE), True)
        self.assertIs(is_tree(tree=CROSS_TREE, facts=CROSS_FACTS, mine=CROSS), True)
        self.assertIs(is_tree(CROSS, (), CROSS_TREE), False)
        self.assertIs(is_tree(BRIDGE, CROSS_FACTS, CROSS_TREE), True)
        self.assertIs(is_tree(WHEEL, CROSS_FACTS, CROSS_TREE), False)

    def test_what_follows_from_the_facts_does_not_count(self):
        self.assertIs(is_tree(CROSS, CROSS_FACTS, ("case", 2, 1, TREE_A, TREE_C)), False)
        self.assertIs(is_tree(ROW, ((0, 2, 1), (2, 1, 0)), ("stuck", 1)), False)
        self.assertIs(is_tree(ROW, ((0, 1, 1), (2, 1, 0)), ("stuck", 1)), True)

    def test_leaves(self):
        self.assertIs(is_tree(ROW, ROW_FACTS, ("ring", TURN)), True)
        self.assertIs(is_tree(ROW, ROW_FACTS, ("ring", TURN[::-1])), True)
        self.assertIs(is_tree(ROW, ROW_FACTS[1:], ("ring", TURN)), False)
        self.assertIs(is_tree(ROW, ROW_FACTS, ("ring", ())), False)
        self.assertIs(is_tree(ROW, ROW_FACTS, ("stuck", 1)), True)
        for place in (0, 2, 3, -1, True, None, (1,)):
            self.assertIs(is_tree(ROW, ROW_FACTS, ("stuck", place)), False)

    def test_the_fans_fact_and_the_cases_count(self):
        self.assertIs(is_tree(ROW, ((2, 0, 0),), ("ring", ((0, 2, 1), (2, 0, 0)))), True)
        tree = ("case", 2, 0, ("ring", ((2, 0, 1), (0, 2, 1))), ("ring", ((0, 2, 0), (2, 0, 0), (0, 2, 1), (2, 0, 0))))
        self.assertIs(is_tree(ROW, ((2, 0, 0),), tree), True)
        self.assertIs(is_tree(ROW, (), tree), False)

    def test_cases_for_any_two_places(self):
        leaf = ("ring", TURN)
        self.assertIs(is_tree(ROW, ROW_FACTS, ("case", 0, 2, leaf, leaf)), True)
        self.assertIs(is_tree(ROW, ROW_FACTS, ("case", 2, 2, leaf, leaf)), False)
        self.assertIs(is_tree(ROW, ROW_FACTS, ("case", 0, 3, leaf, leaf)), False)
        self.assertIs(is_tree(ROW, ROW_FACTS, ("case", 0, True, leaf, leaf)), False)

    def test_the_parts_of_a_case_are_not_exchanged(self):
        tree = tree_for(ROW, ((1, 0, 0),))
        self.assertIs(is_tree(ROW, ((1, 0, 0),), tree), True)
        word, x, y, above, rest = tree
        self.assertEqual(word, "case")
        self.assertIs(is_tree(ROW, ((1, 0, 0),), (word, x, y, rest, above)), False)
        self.assertIs(is_tree(ROW, ((1, 0, 0),), (word, y, x, above, rest)), False)

    def test_forty_cases_on_a_path_and_more(self):
        for side in ("above", "rest"):
            for leaf in (("ring", TURN), ("stuck", 1)):
                for many in (0, 1, 39, 40):
                    self.assertIs(is_tree(ROW, ROW_FACTS, chain(many, leaf, side)), True)
                for many in (41, 42, 90):
                    self.assertIs(is_tree(ROW, ROW_FACTS, chain(many, leaf, side)), False)
        deep = chain(40, ("ring", TURN), "rest")
        self.assertIs(is_tree(ROW, ROW_FACTS, ("case", 0, 1, ("ring", TURN), deep)), False)
        self.assertIs(is_tree(ROW, ROW_FACTS, ("case", 0, 1, deep, ("ring", TURN))), False)

    def test_rings_of_at_most_sixty_facts(self):
        self.assertIs(is_tree(ROW, ROW_FACTS, ("ring", TURN * 30)), True)
        self.assertIs(is_tree(ROW, ROW_FACTS, ("ring", TURN * 31)), False)
        self.assertIs(is_tree(ROW, ROW_FACTS, ("ring", TURN * 300000)), False)
        odd = ((0, 1, 1), (1, 2, 0), (2, 0, 0))
        for many, right in ((27, True), (28, True), (29, False)):
            ring = TURN * many + odd
            self.assertEqual(len(ring) <= 60, right)
            self.assertIs(is_tree(ROW, ROW_FACTS + odd, ("ring", ring)), right)

    def test_a_leaf_with_a_state_is_none_of_a_tree(self):
        state = state_for(ROW, ())
        self.assertIs(is_tree(ROW, (), ("state",) + state), False)
        tree = ("case", 0, 1, ("state",) + state, ("ring", ((1, 0, 0), (0, 1, 1))))
        self.assertIs(is_tree(ROW, ((0, 1, 1),), tree), False)
        for number in (1, BIG, -BIG):
            self.assertIs(is_tree(ROW, (), ("state", (1, 1), (number, 0, -number))), False)

    def test_large_trees(self):
        leaf = ("ring", TURN)
        tree = leaf
        for k in range(12):
            tree = ("case", k % 3, (k + 1) % 3, tree, tree)
        self.assertIs(is_tree(ROW, ROW_FACTS, tree), True)
        self.assertIs(is_tree(ROW, ROW_FACTS[1:], tree), False)
        for leaf in (("ring", TURN), ("ring", ()), ("stuck", 0)):
            tree = leaf
            for k in range(90):
                tree = ("case", k % 3, (k + 1) % 3, tree, tree)
            self.assertIs(is_tree(ROW, ROW_FACTS, tree), False)

    def test_values_of_every_kind(self):
        for value in values_of_every_kind():
            for whole in (
                value, (value,), ("ring", value), ("stuck", value), ("ring", (value,)), ("ring", (value,) * 2),
                ("ring", (TURN[0], (1, value, 0))), (value, TURN), ("case", value, 1, ("ring", TURN), ("ring", TURN)),
                ("case", 0, 1, ("ring", TURN), value), ("case", 0, 1, value, ("ring", TURN)), ("ring", TURN, value),
            ):
                self.assert_told(ROW, ROW_FACTS, whole)

    def test_long_values(self):
        for value in long_values():
            for whole in (value, ("ring", value), ("stuck", value), ("case", 0, 1, value, ("ring", TURN))):
                self.assert_told(ROW, ROW_FACTS, whole)

    def test_one_part_changed(self):
        wrong = right = 0
        for value in variants(CROSS_TREE):
            self.assert_told(CROSS, CROSS_FACTS, value)
            wrong += 1
        numbers = Numbers(49)
        others = ODD[:6] + ODD[13:18]
        while wrong < 12000:
            mine = numbers.mine()
            facts = drawn_facts(mine, numbers, 3)
            tree = tree_for(mine, facts)
            if tree is not None and told.most_cases(tree) < 7:
                for value in variants(tree, others):
                    self.assert_told(mine, facts, value)
                    wrong += 1
                    right += is_tree(mine, facts, value)
        self.assertGreater(right, 0)

    def test_fewer_facts(self):
        for mine, numbers in random_mines(50, 150):
            facts = drawn_facts(mine, numbers, 4)
            tree = tree_for(mine, facts)
            if tree is not None:
                for k in range(4):
                    self.assert_told(mine, facts[:k] + facts[k + 1:], tree)
                self.assert_told(TURNED, facts, tree)

    def test_deep_values(self):
        for empty in ((), None, "ring"):
            deep = nested(97, empty)
            for value in (deep, ("ring", deep), ("case", 0, 1, deep, deep), ("stuck", deep), (deep, TURN)):
                self.assertIs(is_tree(ROW, ROW_FACTS, value), False)


if __name__ == "__main__":
    unittest.main()
