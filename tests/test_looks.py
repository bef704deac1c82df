"""windways.looks: how few looks settle a goal."""

import copy
import time
import unittest
from itertools import permutations, product

from tests import told
from tests.samples import (
    BRIDGE, CROSS, HANGING, JOINED, LADDER, LINE, PAIR, ROW, TWINS, WHEEL,
    Numbers, drawn_facts, drawn_order, drawn_pair, exchanged, random_mines, renamed, renamed_facts, small_mine,
    told_inner,
)
from windways.cases import is_possible
from windways.looks import looks_needed

STAR = (5, ((0, 1), (0, 2), (0, 3), (1, 4), (2, 4), (3, 4)), 0, 4)
ALL_WAYS = (5, tuple((a, b) for a in range(5) for b in range(a + 1, 5)), 0, 4)


def settles(fitting, looks, goal, many):
    """Whether so many looks settle the goal, for these balanced levels that are left."""
    u, v = goal
    if len({told.sign(levels[u] - levels[v]) for levels in fitting}) <= 1:
        return True
    if many == 0:
        return False
    for x, y in looks:
        left = {1: [], -1: [], 0: []}
        for levels in fitting:
            left[told.sign(levels[x] - levels[y])].append(levels)
        if all(settles(part, looks, goal, many - 1) for part in left.values()):
            return True
    return False


def told_number(fitting, looks, goal):
    return next((many for many in range(len(looks) + 1) if settles(fitting, looks, goal, many)), None)


def pair_among(places, numbers):
    """Two different places of these."""
    k = numbers.below(len(places))
    return (places[k], places[(k + 1 + numbers.below(len(places) - 1)) % len(places)])


class LooksNeeded(unittest.TestCase):
    def assert_number(self, mine, facts, looks, goal, number):
        answer = looks_needed(mine, facts, looks, goal)
        self.assertEqual((answer, type(answer)), (number, type(number)), (mine, facts, looks, goal))

    def test_the_document(self):
        self.assert_number(BRIDGE, (), ((1, 2),), (1, 2), 1)
        self.assert_number(BRIDGE, (), ((0, 1),), (1, 2), None)
        self.assert_number(BRIDGE, (), (), (0, 3), 0)

    def test_no_looks(self):
        self.assert_number(BRIDGE, (), (), (1, 2), None)
        self.assert_number(BRIDGE, ((1, 2, 1),), (), (1, 2), 0)
        self.assert_number(BRIDGE, ((1, 2, 0),), (), (1, 2), None)
        self.assert_number(PAIR, (), (), (1, 0), 0)
        self.assert_number(TWINS, (), (), (0, 1), 0)

    def test_one_look(self):
        self.assert_number(BRIDGE, (), ((2, 1),), (1, 2), 1)
        self.assert_number(BRIDGE, (), ((2, 1),), (2, 1), 1)
        self.assert_number(BRIDGE, (), ((2, 1),), (0, 1), 0)
        self.assert_number(BRIDGE, ((2, 1, 0), (1, 2, 0)), ((2, 1),), (2, 1), 0)

    def test_the_same_look_twice(self):
        self.assert_number(BRIDGE, (), ((1, 2), (1, 2)), (1, 2), 1)
        self.assert_number(BRIDGE, (), ((1, 2), (2, 1)), (2, 1), 1)
        self.assert_number(BRIDGE, (), ((0, 1), (0, 1)), (1, 2), None)
        self.assert_number(LADDER, (), ((1, 2), (1, 2)), (3, 4), None)

    def test_the_second_look_may_depend_on_the_first(self):
        # The order of 1, 3 and 2 between inlet and outlet: one look may settle it, two looks at 3 surely do not.
        self.assert_number(STAR, (), ((1, 3), (3, 2)), (1, 2), None)
        self.assert_number(STAR, ((1, 3, 0),), ((1, 3), (3, 2)), (1, 2), None)
        self.assert_number(STAR, ((1, 3, 0), (3, 2, 0)), ((1, 3), (3, 2)), (1, 2), 2)
        self.assert_number(STAR, ((1, 3, 1), (3, 2, 0)), ((1, 3), (3, 2)), (1, 2), 0)
        self.assert_number(STAR, (), ((1, 3), (1, 2)), (1, 2), 1)

    def test_facts_that_are_not_possible(self):
        for mine, facts in ((BRIDGE, ((1, 0, 1),)), (ROW, ((1, 2, 1), (2, 1, 1))), (HANGING, ((3, 4, 1),))):
            self.assertFalse(is_possible(mine, facts))
            for goal in ((0, 1), (1, 2), (2, 0)):
                for looks in ((), ((0, 1),), ((0, 1), (1, 2))):
                    self.assert_number(mine, facts, looks, goal, 0)

    def test_all_looks_in_small_mines(self):
        for mine in (ROW, BRIDGE, CROSS):
            fitting = told.balanced_levels(mine)
            pairs = [(x, y) for x, y in product(range(mine[0]), repeat=2) if x != y]
            for goal in pairs:
                for looks in [(), *[(one,) for one in pairs], *product(pairs[::2], pairs[1::2])]:
                    self.assert_number(mine, (), looks, goal, told_number(fitting, looks, goal))

    def test_drawn_looks(self):
        numbers = Numbers(91)
        seen = {}
        for k in range(200):
            mine = (small_mine(numbers, 5), STAR, BRIDGE, ALL_WAYS)[k % 4]
            inner = told_inner(mine)
            places = inner if k % 2 and len(inner) > 1 else list(range(mine[0]))
            balanced = told.balanced_levels(mine) if len(mine[1]) <= 10 else []
            for many in (0, 1, 2, 3):
                facts = tuple(pair_among(places, numbers) + (numbers.below(2),) for _ in range(many))
                fitting = [levels for levels in balanced if told.fits(facts, levels)]
                looks = tuple(pair_among(places, numbers) for _ in range(numbers.below(2) + 1))
                goal = pair_among(places, numbers)
                if balanced:
                    number = told_number(fitting, looks, goal)
                    self.assert_number(mine, facts, looks, goal, number)
                    seen[number] = seen.get(number, 0) + 1
        self.assertLessEqual({0, 1, None}, set(seen))
        self.assertGreater(min(seen[number] for number in (0, 1, None)), 20)

    def test_two_looks(self):
        for mine in (STAR, ALL_WAYS):
            balanced = told.balanced_levels(mine)
            for a, b, c in permutations((1, 2, 3)):
                for looks in product(((a, c), (c, a), (c, b), (b, c)), repeat=2):
                    for facts in (((a, c, 0), (c, b, 0)), ((a, c, 0), (c, b, 1)), ((a, c, 0),), ((c, a, 1), (c, b, 0))):
                        fitting = [levels for levels in balanced if told.fits(facts, levels)]
                        self.assert_number(mine, facts, looks, (a, b), told_number(fitting, looks, (a, b)))
                self.assert_number(mine, ((a, c, 0), (c, b, 0)), ((b, c), (a, c)), (b, a), 2)

    def test_names_of_places_order_of_ways_and_the_fan(self):
        for mine, numbers in random_mines(92, 60):
            if len(mine[1]) <= 10:
                facts = drawn_facts(mine, numbers, 1)
                looks = (drawn_pair(mine, numbers), drawn_pair(mine, numbers))
                goal = drawn_pair(mine, numbers)
                number = looks_needed(mine, facts, looks, goal)
                names = drawn_order(mine[0], numbers)
                looks_named = tuple((names[x], names[y]) for x, y in looks)
                goal_named = (names[goal[0]], names[goal[1]])
                other = renamed(mine, names)
                self.assert_number(other, renamed_facts(facts, names), looks_named, goal_named, number)
                order = drawn_order(len(mine[1]), numbers)
                other = (mine[0], tuple(mine[1][w] for w in order), mine[2], mine[3])
                self.assert_number(other, facts, looks, goal, number)
                turned = tuple((y, x, s) for x, y, s in facts)
                self.assert_number(exchanged(mine), turned, looks, goal, number)
                self.assert_number(mine, facts, looks[::-1], goal[::-1], number)

    def test_nothing_is_changed_and_answers_stay(self):
        arguments = {"goal": (1, 2), "looks": ((0, 1), (2, 1)), "facts": ((0, 1, 1),), "mine": BRIDGE}
        before = copy.deepcopy(arguments)
        self.assertEqual(looks_needed(**arguments), 1)
        self.assertEqual(looks_needed(*list(arguments.values())[::-1]), 1)
        self.assertEqual(arguments, before)

    def test_the_largest_mines_take_no_long(self):
        numbers = Numbers(93)
        ladder = (8, LADDER[1][:2] + LADDER[1][3:], 0, 7)
        wheel = (6, WHEEL[1][1:], 0, 5)
        began = time.perf_counter()
        mines = [mine for mine, _ in random_mines(94, 60) if mine[0] >= 6 and 8 <= len(mine[1]) <= 10]
        for mine in [ladder, wheel, LINE] + [mine for mine in JOINED if len(mine[1]) == 9] + mines:
            for many in (0, 2, 12):
                looks = (drawn_pair(mine, numbers), drawn_pair(mine, numbers))
                looks_needed(mine, drawn_facts(mine, numbers, many), looks, drawn_pair(mine, numbers))
        self.assertLess(time.perf_counter() - began, 20)


if __name__ == "__main__":
    unittest.main()
