"""windways.balance: balanced levels, and widths for them."""

import unittest

from tests.samples import (
    BACKWARD_PAIR, BEHIND, BIG, BRIDGE, CROWDED, FULL, HANGING, JOINED, PAIR, ROW, TURNED, TWINS,
    Numbers, all_levels, random_mines, told_balanced, told_state,
)
from windways.air import is_state, levels_for, picture_of
from windways.balance import is_balanced, widths_for


def drawn_levels(mine, numbers, most):
    """Levels from -most to most, the inlet at the top and the outlet at the bottom."""
    levels = [numbers.below(2 * most + 1) - most for _ in range(mine[0])]
    levels[mine[2]] = most
    levels[mine[3]] = -most
    return tuple(levels)


class Balanced(unittest.TestCase):
    def test_balanced_levels(self):
        for mine, levels in (
            (PAIR, (1, 0)),
            (PAIR, (-3, -4)),
            (BACKWARD_PAIR, (0, 1)),
            (ROW, (2, 1, 0)),
            (BRIDGE, (3, 2, 1, 0)),
            (BRIDGE, (3, 1, 2, 0)),
            (BRIDGE, (3, 1, 1, 0)),
            (TWINS, (10000, -10000)),
            (HANGING, (9, 5, 2, 5, 5, 9, 2)),
            (BEHIND, (6, 5, 9, 9, 9, 3, 3, 3)),
        ):
            self.assertIs(is_balanced(mine, levels), True, (mine, levels))

    def test_levels_that_are_not_balanced(self):
        for mine, levels in (
            (ROW, (2, 2, 0)),
            (ROW, (2, 0, 0)),
            (ROW, (2, 3, 0)),
            (ROW, (2, -1, 0)),
            (BRIDGE, (3, 3, 1, 0)),
            (BRIDGE, (3, 2, 0, 0)),
            (BRIDGE, (3, 2, 4, 0)),
            (HANGING, (9, 5, 2, 5, 4, 9, 2)),
            (HANGING, (9, 5, 2, 5, 5, 10, 2)),
            (HANGING, (9, 5, 2, 5, 5, 8, 2)),
            (HANGING, (9, 5, 2, 5, 5, 9, 1)),
            (BEHIND, (6, 5, 9, 9, 8, 3, 3, 3)),
            (BEHIND, (6, 5, 9, 10, 11, 3, 3, 3)),
            (BEHIND, (6, 5, 9, 9, 9, 3, 2, 3)),
        ):
            self.assertIs(is_balanced(mine, levels), False, (mine, levels))

    def test_inlet_not_above_outlet(self):
        for mine, levels in (
            (PAIR, (0, 0)),
            (PAIR, (0, 1)),
            (BACKWARD_PAIR, (1, 0)),
            (ROW, (0, 1, 2)),
            (ROW, (1, 1, 1)),
            (BRIDGE, (0, 1, 2, 3)),
            (BRIDGE, (4, 4, 4, 4)),
        ):
            self.assertIs(is_balanced(mine, levels), False, (mine, levels))

    def test_places_that_are_still_with_all_their_neighbours(self):
        across = (6, ((0, 1), (0, 2), (0, 3), (1, 5), (2, 5), (3, 5), (4, 1), (4, 2), (3, 4)), 0, 5)
        self.assertIs(is_balanced(across, (2, 1, 1, 1, 1, 0)), True)
        self.assertIs(is_balanced(across, (9, 5, 5, 6, 5, 0)), False)
        self.assertIs(is_balanced(across, (9, 4, 5, 6, 5, 0)), True)
        self.assertIs(is_state(across, widths_for(across, (2, 1, 1, 1, 1, 0)), (2, 1, 1, 1, 1, 0)), True)

    def test_every_small_level_of_small_mines(self):
        seen = set()
        for mine in (PAIR, BACKWARD_PAIR, ROW, BRIDGE, TWINS, (4, ((1, 2), (2, 1), (0, 2), (3, 1), (3, 0)), 1, 0)):
            for levels in all_levels(mine, 4):
                balanced = told_balanced(mine, levels)
                self.assertIs(is_balanced(mine, levels), balanced, (mine, levels))
                seen.add(balanced)
        self.assertEqual(seen, {True, False})

    def test_many_mines(self):
        for mine, numbers in random_mines(81, 300):
            for most in (2, 3, 10000):
                levels = drawn_levels(mine, numbers, most)
                self.assertIs(is_balanced(mine, levels), told_balanced(mine, levels), (mine, levels))

    def test_levels_of_any_widths_are_balanced(self):
        for mine, numbers in random_mines(82, 150):
            levels = levels_for(mine, numbers.widths(mine))
            self.assertIs(is_balanced(mine, levels), True)
        for mine in JOINED:
            self.assertIs(is_balanced(mine, levels_for(mine, (1,) * len(mine[1]))), True)

    def test_levels_of_any_size(self):
        self.assertIs(is_balanced(ROW, (BIG, BIG - 1, BIG - 2)), True)
        self.assertIs(is_balanced(ROW, (BIG, BIG, BIG - 1)), False)
        self.assertIs(is_balanced(ROW, (BIG, BIG - 1, -BIG)), True)

    def test_by_name(self):
        self.assertIs(is_balanced(levels=(3, 2, 1, 0), mine=BRIDGE), True)
        self.assertIs(is_balanced(levels=(3, 3, 1, 0), mine=BRIDGE), False)


class WidthsFor(unittest.TestCase):
    def assert_widths(self, mine, levels):
        widths = widths_for(mine, levels)
        self.assertIs(type(widths), tuple)
        self.assertEqual([type(width) for width in widths], [int] * len(mine[1]))
        self.assertGreaterEqual(min(widths), 1)
        self.assertLessEqual(max(widths), BIG)
        self.assertTrue(told_state(mine, widths, levels), (mine, levels, widths))
        self.assertIs(is_state(mine, widths, levels), True)

    def test_known_levels(self):
        for mine, levels in (
            (PAIR, (1, 0)),
            (PAIR, (10000, -10000)),
            (BACKWARD_PAIR, (-10000, 10000)),
            (ROW, (10000, 9999, -10000)),
            (ROW, (10000, -9999, -10000)),
            (BRIDGE, (3, 2, 1, 0)),
            (BRIDGE, (10000, 1, 0, -10000)),
            (BRIDGE, (5, 3, 3, 0)),
            (TWINS, (7, -7)),
            (HANGING, (9, 5, 2, 5, 5, 9, 2)),
            (BEHIND, (6, 5, 9, 9, 9, 3, 3, 3)),
        ):
            self.assert_widths(mine, levels)

    def test_every_small_balanced_level_of_small_mines(self):
        for mine in (PAIR, BACKWARD_PAIR, ROW, BRIDGE, TWINS, (4, ((1, 2), (2, 1), (0, 2), (3, 1), (3, 0)), 1, 0)):
            for levels in all_levels(mine, 4):
                if told_balanced(mine, levels):
                    self.assert_widths(mine, levels)

    def test_levels_of_a_state(self):
        many = 0
        for mine, numbers in random_mines(91, 200):
            for most in (1, 3):
                widths = tuple([numbers.below(most) + 1 for _ in mine[1]])
                levels = levels_for(mine, widths)
                if max(levels) <= 10000:
                    many += 1
                    self.assert_widths(mine, levels)
        self.assertGreater(many, 200)

    def test_drawn_balanced_levels(self):
        many = 0
        for mine, numbers in random_mines(92, 300):
            for most in (1, 2, 3, 10, 10000):
                for _ in range(4):
                    levels = drawn_levels(mine, numbers, most)
                    if told_balanced(mine, levels):
                        many += 1
                        self.assert_widths(mine, levels)
        self.assertGreater(many, 300)

    def test_eight_places_and_twelve_ways_with_far_levels(self):
        numbers = Numbers(93)
        many = 0
        for mine in (FULL, CROWDED, TURNED):
            for _ in range(3000):
                levels = drawn_levels(mine, numbers, 10000)
                if told_balanced(mine, levels):
                    many += 1
                    self.assert_widths(mine, levels)
        self.assertGreater(many, 100)

    def test_differences_without_common_divisors(self):
        mine = (8, ((0, 1), (0, 2), (0, 3), (0, 4), (0, 5), (0, 6), (1, 7), (2, 7), (3, 7), (4, 7), (5, 7), (6, 7)), 0, 7)
        levels = (10000, 9, 29, 53, 87, 101, -119, -10000)
        self.assert_widths(mine, levels)

    def test_many_ways_share_one_narrow_way(self):
        self.assert_widths((3, ((0, 1),) * 11 + ((1, 2),), 0, 2), (10000, -9999, -10000))
        self.assert_widths((3, ((1, 0),) + ((2, 1),) * 11, 0, 2), (10000, 9999, -10000))

    def test_the_picture_is_kept(self):
        for mine, numbers in random_mines(94, 100):
            levels = drawn_levels(mine, numbers, 3)
            if told_balanced(mine, levels):
                solved = levels_for(mine, widths_for(mine, levels))
                self.assertEqual(picture_of(mine, solved), picture_of(mine, levels))

    def test_by_name(self):
        levels = (3, 2, 1, 0)
        self.assertTrue(told_state(BRIDGE, widths_for(levels=levels, mine=BRIDGE), levels))


if __name__ == "__main__":
    unittest.main()
