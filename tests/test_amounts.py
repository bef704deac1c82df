"""windways.amounts: amounts of air, ways within others, locks, strong states and ways with the same air."""

import copy
import time
import unittest
from itertools import combinations

from tests import told
from tests.samples import (
    BACKWARD_PAIR, BEHIND, BIG, BRIDGE, CROSS, CROWDED, FULL, HANGING, JOINED, LADDER, LINE, PAIR, ROW, TURNED, TWINS,
    WHEEL, Numbers, full_mine, random_mines, small_mine, told_state,
)
from tests.told_amounts import is_lock_form, is_told_lock, told_amounts, told_same_air, told_within
from tests.variants import long_values, nested, values_of_every_kind, variants
from windways.air import levels_for
from windways.amounts import amounts_of, is_lock, is_within_others, lock_for, same_air, strong_state

MANY_ROUTES = (5, ((0, 1),) * 3 + ((1, 2),) * 3 + ((2, 3),) * 3 + ((3, 4),) * 3, 0, 4)
MILLION = 10 ** 6


def all_others(mine, w):
    """All tuples of other ways."""
    rest = [k for k in range(len(mine[1])) if k != w]
    return [others for many in range(len(rest) + 1) for others in combinations(rest, many)]


def all_locks(mine):
    """All values in the form of a lock."""
    places = range(mine[0])
    some = [chosen for many in range(mine[0] + 1) for chosen in combinations(places, many)]
    return [(gate, chosen) for gate in places for chosen in some]


class Amounts(unittest.TestCase):
    def test_known_amounts(self):
        self.assertEqual(amounts_of(BRIDGE, (6, 2, 2, 6, 2), (3, 2, 1, 0)), (6, 4, 4, 6, 2))
        self.assertEqual(amounts_of(BRIDGE, (2, 6, 6, 2, 2), (3, 1, 2, 0)), (4, 6, 6, 4, 2))
        self.assertEqual(amounts_of(BRIDGE, (1, 1, 1, 1, 7), (2, 1, 1, 0)), (1, 1, 1, 1, 0))
        self.assertEqual(amounts_of(BACKWARD_PAIR, (5,), (-2, 3)), (25,))
        self.assertEqual(amounts_of(mine=PAIR, widths=(BIG,), levels=(BIG, -BIG)), (2 * BIG * BIG,))

    def test_drawn_states(self):
        for mine, numbers in random_mines(301, 80):
            widths = numbers.widths(mine)
            levels = levels_for(mine, widths)
            amounts = amounts_of(mine, widths, levels)
            self.assertEqual(amounts, told_amounts(mine, widths, levels))
            self.assertTrue(type(amounts) is tuple and all(type(amount) is int and amount >= 0 for amount in amounts))


class Within(unittest.TestCase):
    def test_the_document(self):
        self.assertIs(is_within_others(CROSS, 2, (0, 1)), True)
        self.assertIs(is_within_others(CROSS, 2, (0,)), False)
        self.assertIs(is_lock(CROSS, 2, (0, 1), (3, (1, 2))), True)

    def test_known_answers(self):
        self.assertTrue(is_within_others(ROW, 0, (1,)))
        self.assertTrue(is_within_others(ROW, 1, (0,)))
        self.assertFalse(is_within_others(ROW, 0, ()))
        self.assertFalse(is_within_others(TWINS, 0, (1, 2)))
        self.assertTrue(is_within_others(BRIDGE, 4, (0, 1)))
        self.assertTrue(is_within_others(BRIDGE, 4, (2, 3)))
        self.assertTrue(is_within_others(BRIDGE, 4, (0, 2)))
        self.assertFalse(is_within_others(BRIDGE, 4, (0, 3)))
        self.assertFalse(is_within_others(BRIDGE, 4, (2,)))

    def test_idle_ways_are_within_any_others(self):
        for mine, idle in ((HANGING, (2, 3, 4, 5, 6)), (BEHIND, (0, 1, 2, 3, 4, 5))):
            for w in idle:
                self.assertTrue(is_within_others(mine, w, ()))
                gate, some = lock_for(mine, w, ())
                self.assertTrue(is_told_lock(mine, w, (), (gate, some)))
            for w in range(len(mine[1])):
                self.assertEqual(is_within_others(mine, w, ()), w in idle)

    def assert_within(self, mine, w, others):
        expected = told_within(mine, w, others)
        self.assertIs(is_within_others(mine, w, others), expected, (mine, w, others))
        lock = lock_for(mine, w, others)
        if expected:
            self.assertTrue(is_lock_form(mine, lock))
            self.assertTrue(is_told_lock(mine, w, others, lock), (mine, w, others, lock))
            self.assertIs(is_lock(mine, w, others, lock), True)
        else:
            self.assertIsNone(lock)

    def test_all_routes_of_small_mines(self):
        numbers = Numbers(302)
        seen = {True: 0, False: 0}
        for mine in [PAIR, BACKWARD_PAIR, ROW, BRIDGE, CROSS, TWINS] + [small_mine(numbers, 6) for _ in range(30)]:
            if len(mine[1]) <= 7:
                for w in range(len(mine[1])):
                    for others in all_others(mine, w):
                        self.assert_within(mine, w, others)
                        seen[told_within(mine, w, others)] += 1
        self.assertGreater(min(seen.values()), 300)

    def test_drawn_others(self):
        for mine in JOINED + (MANY_ROUTES,) + tuple(mine for mine, _ in random_mines(303, 100)):
            numbers = Numbers(len(mine[1]))
            for w in range(len(mine[1])):
                for most in (2, 3, 5):
                    others = tuple(k for k in range(len(mine[1])) if k != w and not numbers.below(most))
                    self.assert_within(mine, w, others)

    def test_amounts_in_states_bear_it_out(self):
        for mine, numbers in random_mines(304, 40):
            states = [(widths, levels_for(mine, widths)) for widths in [numbers.widths(mine) for _ in range(4)]]
            for w in range(len(mine[1])):
                others = tuple(k for k in range(len(mine[1])) if k != w and not numbers.below(3))
                if is_within_others(mine, w, others):
                    for state in states:
                        amounts = amounts_of(mine, *state)
                        self.assertLessEqual(amounts[w], sum(amounts[k] for k in others))


class Locks(unittest.TestCase):
    def test_all_locks_of_small_mines(self):
        numbers = Numbers(305)
        seen = {True: 0, False: 0}
        for mine in [PAIR, ROW, BRIDGE, CROSS, TWINS, BACKWARD_PAIR] + [small_mine(numbers, 5) for _ in range(12)]:
            locks = all_locks(mine)
            for w in range(len(mine[1])):
                for others in ((), tuple(k for k in range(len(mine[1])) if k != w),
                               tuple(k for k in range(len(mine[1])) if k != w and numbers.below(2))):
                    found = [lock for lock in locks if is_told_lock(mine, w, others, lock)]
                    self.assertEqual(bool(found), told_within(mine, w, others))
                    for lock in locks:
                        self.assertIs(is_lock(mine, w, others, lock), lock in found, (mine, w, others, lock))
                        seen[lock in found] += 1
        self.assertGreater(min(seen.values()), 50)

    def test_gates(self):
        # The hanging part at the inlet is locked by the inlet, that at the outlet by the outlet.
        self.assertTrue(is_lock(HANGING, 5, (), (0, (5,))))
        self.assertTrue(is_lock(HANGING, 6, (), (2, (6,))))
        self.assertTrue(is_lock(HANGING, 3, (), (1, (3, 4))))
        self.assertFalse(is_lock(HANGING, 3, (), (1, (3,))))
        self.assertFalse(is_lock(HANGING, 3, (), (3, (4,))))
        self.assertTrue(is_lock(HANGING, 3, (2,), (4, (3,))))
        self.assertFalse(is_lock(HANGING, 5, (), (5, (0,))))
        self.assertFalse(is_lock(HANGING, 5, (), (0, (0, 5))))
        self.assertFalse(is_lock(HANGING, 5, (), (5, ())))

    def test_no_places_in_the_lock(self):
        for mine in (PAIR, ROW, BRIDGE, TWINS):
            for gate in range(mine[0]):
                for w in range(len(mine[1])):
                    others = tuple(k for k in range(len(mine[1])) if k != w)
                    self.assertIs(is_lock(mine, w, others, (gate, ())), False)

    def test_values_that_are_no_locks(self):
        for value in values_of_every_kind() + long_values() + [nested(97, ())]:
            self.assertIs(is_lock(CROSS, 2, (0, 1), value), False)
            self.assertIs(is_lock(CROSS, 2, (0, 1), (value, (1, 2))), False)
            self.assertIs(is_lock(CROSS, 2, (0, 1), (3, value)), False)
            self.assertIs(is_lock(CROSS, 2, (0, 1), (3, (1, value))), is_told_lock(CROSS, 2, (0, 1), (3, (1, value))))
        for value in ((3, (True, 2)), (3, (2, 1)), (3, (1, 1, 2)), (3, [1, 2]), [3, (1, 2)], (3, (1, 2), ()), (3,),
                      (4, (1, 2)), (-1, (1, 2)), (3, (1, 2, 4)), (3, (-1, 1, 2)), ("3", (1, 2)), (3, (1, 2, 3))):
            self.assertIs(is_lock(CROSS, 2, (0, 1), value), False)
        self.assertIs(is_lock(ROW, 1, (0,), (True, ())), False)
        self.assertIs(is_lock((3, ((0, 1), (1, 2), (0, 2)), 0, 1), 1, (2,), (True, (2,))), False)
        self.assertIs(is_lock((3, ((0, 1), (1, 2), (0, 2)), 0, 1), 1, (2,), (1, (2,))), True)

    def test_one_part_changed(self):
        numbers = Numbers(306)
        for mine in (CROSS, HANGING, BEHIND, WHEEL) + tuple(small_mine(numbers, 6) for _ in range(6)):
            for w in range(len(mine[1])):
                others = tuple(k for k in range(len(mine[1])) if k != w and numbers.below(2))
                lock = lock_for(mine, w, others)
                if lock is not None:
                    before = copy.deepcopy(lock)
                    for value in variants(lock):
                        self.assertIs(is_lock(mine, w, others, value), is_told_lock(mine, w, others, value), value)
                    self.assertEqual(lock, before)


class StrongStates(unittest.TestCase):
    def test_all_routes(self):
        numbers = Numbers(307)
        mines = JOINED + (MANY_ROUTES,) + tuple(mine for mine, _ in random_mines(308, 60))
        for mine in mines + tuple(full_mine(numbers) for _ in range(20)):
            for route in told.told_routes(mine):
                state = strong_state(mine, route)
                self.assertTrue(told.is_state_form(mine, state), (mine, route))
                self.assertTrue(told_state(mine, *state), (mine, route))
                amounts = told_amounts(mine, *state)
                rest = sum(amounts[w] for w in range(len(amounts)) if w not in route)
                least = min(amounts[w] for w in route)
                self.assertGreater(least, MILLION * rest)
                self.assertGreater(least, MILLION)

    def test_the_longest_routes(self):
        lines = [LINE[1] + extra for extra in (((0, 7),) * 5, ((0, 2), (2, 4), (4, 6), (5, 7), (1, 7)), ((3, 4),) * 5)]
        for ways in lines:
            mine = (8, ways, 0, 7)
            state = strong_state(mine, (0, 1, 2, 3, 4, 5, 6))
            self.assertTrue(told.is_state_form(mine, state) and told_state(mine, *state))
            amounts = told_amounts(mine, *state)
            self.assertGreater(min(amounts[:7]), MILLION * sum(amounts[7:]))


class SameAir(unittest.TestCase):
    def test_the_document(self):
        self.assertEqual(same_air((3, ((0, 1), (1, 2), (0, 2)), 0, 2)), ((0, 1), (2,)))

    def test_known_answers(self):
        self.assertEqual(same_air(LINE), (tuple(range(7)),))
        self.assertEqual(same_air(TWINS), ((0,), (1,), (2,)))
        self.assertEqual(same_air(BRIDGE), ((0,), (1,), (2,), (3,), (4,)))
        self.assertEqual(same_air(HANGING), ((0, 1), (2, 3, 4, 5, 6)))
        self.assertEqual(same_air(BEHIND), ((0, 1, 2, 3, 4, 5), (6, 7, 8)))

    def test_all_routes(self):
        for mine in JOINED + (MANY_ROUTES,) + tuple(mine for mine, _ in random_mines(309, 150)):
            groups = same_air(mine)
            self.assertEqual(groups, told_same_air(mine))
            self.assertEqual(sorted(w for group in groups for w in group), list(range(len(mine[1]))))

    def test_ways_within_one_another(self):
        for mine, _ in random_mines(310, 30):
            groups = same_air(mine)
            for one, two in combinations(range(len(mine[1])), 2):
                same = any(one in group and two in group for group in groups)
                self.assertEqual(same, is_within_others(mine, one, (two,)) and is_within_others(mine, two, (one,)))

    def test_amounts_in_states_bear_it_out(self):
        for mine, numbers in random_mines(311, 40):
            widths = numbers.widths(mine)
            amounts = amounts_of(mine, widths, levels_for(mine, widths))
            for group in same_air(mine):
                self.assertEqual(len({amounts[w] for w in group}), 1)


class Calls(unittest.TestCase):
    def test_nothing_is_changed(self):
        others, value = (0, 1), [3, [1, {"a": 2}]]
        before = copy.deepcopy((CROSS, others, value))
        is_lock(value=value, others=others, w=2, mine=CROSS)
        lock_for(others=others, w=2, mine=CROSS)
        is_within_others(others=others, w=2, mine=CROSS)
        strong_state(route=(0, 3), mine=CROSS)
        same_air(mine=CROSS)
        self.assertEqual((CROSS, others, value), before)

    def test_the_largest_mines_take_no_long(self):
        numbers = Numbers(312)
        began = time.perf_counter()
        for mine in (FULL, CROWDED, LADDER, WHEEL, TURNED, MANY_ROUTES) + tuple(full_mine(numbers) for _ in range(60)):
            same_air(mine)
            for w in range(len(mine[1])):
                lock_for(mine, w, tuple(k for k in range(len(mine[1])) if k != w and numbers.below(2)))
        self.assertLess(time.perf_counter() - began, 5)


if __name__ == "__main__":
    unittest.main()
