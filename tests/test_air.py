"""windways.air: levels, pressures and air for given widths."""

import unittest
from fractions import Fraction
from math import gcd

from tests.samples import (
    BACKWARD_PAIR, BEHIND, BIG, BRIDGE, CROWDED, FULL, HANGING, JOINED, PAIR, ROW, TURNED, TWINS,
    random_mines, told_inner, told_leaving, told_state,
)
from windways.air import air_of, is_state, levels_for, picture_of, pressures_of, total_air


def cases(seed, many):
    """Pairs of a joined mine and widths for it: the samples with plain and with large widths, and many more."""
    found = []
    for mine in JOINED:
        count = len(mine[1])
        found.append((mine, (1,) * count))
        found.append((mine, (BIG,) * count))
        found.append((mine, tuple(range(1, count + 1))))
        found.append((mine, tuple(BIG - k if k % 2 else k + 1 for k in range(count))))
    for mine, numbers in random_mines(seed, many):
        found.append((mine, numbers.widths(mine)))
    return found


def plain(pair):
    return Fraction(pair[0], pair[1])


class CheckedAnswers(unittest.TestCase):
    def assert_fraction(self, value):
        self.assertIs(type(value), tuple)
        self.assertEqual(len(value), 2)
        self.assertEqual([type(part) for part in value], [int, int])
        self.assertGreaterEqual(value[1], 1)
        self.assertEqual(gcd(value[0], value[1]), 1)

    def assert_levels(self, mine, widths):
        levels = levels_for(mine, widths)
        self.assertIs(type(levels), tuple)
        self.assertEqual([type(level) for level in levels], [int] * mine[0])
        self.assertEqual(levels[mine[3]], 0)
        self.assertGreater(levels[mine[2]], 0)
        self.assertEqual(gcd(*levels), 1)
        for x in told_inner(mine):
            self.assertEqual(told_leaving(mine, widths, levels, x), 0, (mine, widths, x))
        return levels


class Levels(CheckedAnswers):
    def test_known_levels(self):
        self.assertEqual(levels_for(PAIR, (7,)), (1, 0))
        self.assertEqual(levels_for(BACKWARD_PAIR, (7,)), (0, 1))
        self.assertEqual(levels_for(TWINS, (2, 3, 5)), (1, 0))
        self.assertEqual(levels_for(ROW, (1, 1)), (2, 1, 0))
        self.assertEqual(levels_for(ROW, (1, 2)), (3, 1, 0))
        self.assertEqual(levels_for(ROW, (6, 2)), (4, 3, 0))
        self.assertEqual(levels_for(BRIDGE, (2, 1, 1, 2, 1)), (5, 3, 2, 0))

    def test_the_air_balances_and_the_outlet_has_level_0(self):
        for mine, widths in cases(11, 200):
            self.assert_levels(mine, widths)

    def test_widths_times_a_number(self):
        for mine, widths in cases(12, 30):
            levels = levels_for(mine, widths)
            for factor in (2, 15, 10 ** 9 + 7):
                self.assertEqual(levels_for(mine, tuple(width * factor for width in widths)), levels)

    def test_widths_far_apart(self):
        self.assertEqual(levels_for(ROW, (1, BIG)), (BIG + 1, 1, 0))
        self.assertEqual(levels_for(ROW, (BIG, 1)), (BIG + 1, BIG, 0))
        self.assertEqual(levels_for(ROW, (BIG, BIG - 1)), (2 * BIG - 1, BIG, 0))
        self.assertEqual(levels_for(ROW, (BIG, BIG)), (2, 1, 0))

    def test_eight_places_and_twelve_ways(self):
        for mine in (FULL, CROWDED):
            self.assertEqual((mine[0], len(mine[1])), (8, 12))
            for widths in ((1,) * 12, (BIG, 1) * 6, tuple(BIG - k * k for k in range(12)), (1, 2, 3, BIG) * 3):
                self.assert_levels(mine, widths)

    def test_parts_that_hang_at_one_place(self):
        levels = self.assert_levels(HANGING, (3, 5, 7, 11, 13, 17, 19))
        self.assertEqual(levels, (8, 3, 0, 3, 3, 8, 0))

    def test_places_behind_the_inlet_and_the_outlet(self):
        self.assertEqual(self.assert_levels(BEHIND, (1, 2, 3, 4, 5, 6, 2, 3, 6)), (3, 1, 6, 6, 6, 0, 0, 0))
        self.assertEqual(self.assert_levels(BEHIND, (BIG,) * 6 + (1,) * 3), (2, 1, 3, 3, 3, 0, 0, 0))

    def test_still_ways_do_not_depend_on_their_widths(self):
        for width in (1, 5, BIG):
            self.assertEqual(levels_for(BRIDGE, (1, 1, 1, 1, width)), (2, 1, 1, 0))
            self.assertEqual(levels_for(BRIDGE, (2, 4, 3, 6, width)), (5, 2, 2, 0))

    def test_levels_form_a_state(self):
        for mine, widths in cases(13, 60):
            self.assertIs(is_state(mine, widths, levels_for(mine, widths)), True)


class Pressures(CheckedAnswers):
    def test_known_pressures(self):
        self.assertEqual(pressures_of(ROW, (6, 2)), ((1, 1), (3, 4), (0, 1)))
        self.assertEqual(pressures_of(BRIDGE, (1, 1, 1, 1, 5)), ((1, 1), (1, 2), (1, 2), (0, 1)))
        self.assertEqual(pressures_of(BACKWARD_PAIR, (3,)), ((0, 1), (1, 1)))

    def test_pressures_are_the_levels_scaled(self):
        for mine, widths in cases(21, 100):
            pressures = pressures_of(mine, widths)
            self.assertIs(type(pressures), tuple)
            self.assertEqual(len(pressures), mine[0])
            for pressure in pressures:
                self.assert_fraction(pressure)
            self.assertEqual((pressures[mine[2]], pressures[mine[3]]), ((1, 1), (0, 1)))
            levels = [plain(pressure) for pressure in pressures]
            self.assertTrue(told_state(mine, widths, levels))


class Air(CheckedAnswers):
    def test_known_air(self):
        self.assertEqual(air_of(ROW, (6, 2)), ((3, 2), (3, 2)))
        self.assertEqual(air_of(TWINS, (2, 3, 5)), ((2, 1), (-3, 1), (5, 1)))
        self.assertEqual(air_of(BACKWARD_PAIR, (4,)), ((-4, 1),))
        self.assertEqual(air_of(BRIDGE, (2, 1, 1, 2, 1)), ((4, 5), (3, 5), (3, 5), (4, 5), (1, 5)))

    def test_a_way_across(self):
        self.assertEqual(air_of(BRIDGE, (1, 1, 1, 1, 9))[4], (0, 1))
        self.assertEqual(air_of(BRIDGE, (2, 4, 3, 6, 9))[4], (0, 1))
        self.assertEqual(air_of(BRIDGE, (2, 1, 1, 2, 1))[4], (1, 5))
        self.assertEqual(air_of(BRIDGE, (1, 2, 2, 1, 1))[4], (-1, 5))

    def test_air_is_width_times_difference(self):
        for mine, widths in cases(31, 100):
            levels = levels_for(mine, widths)
            air = air_of(mine, widths)
            self.assertIs(type(air), tuple)
            self.assertEqual(len(air), len(mine[1]))
            for w, (a, b) in enumerate(mine[1]):
                self.assert_fraction(air[w])
                self.assertEqual(plain(air[w]), Fraction(widths[w] * (levels[a] - levels[b]), levels[mine[2]]))

    def test_air_is_below_0_where_a_way_is_used_back(self):
        for mine, widths in cases(32, 60):
            turned = (mine[0], tuple((b, a) for a, b in mine[1]), mine[2], mine[3])
            air = air_of(mine, widths)
            self.assertEqual(air_of(turned, widths), tuple((-number, parts) for number, parts in air))
            self.assertEqual(levels_for(turned, widths), levels_for(mine, widths))
            self.assertEqual(total_air(turned, widths), total_air(mine, widths))


class TotalAir(CheckedAnswers):
    def test_equal_ways_behind_and_beside_one_another(self):
        self.assertEqual(total_air(ROW, (1, 1)), (1, 2))
        self.assertEqual(total_air(ROW, (5, 5)), (5, 2))
        self.assertEqual(total_air((2, ((0, 1), (0, 1)), 0, 1), (1, 1)), (2, 1))
        self.assertEqual(total_air((2, ((0, 1), (1, 0)), 1, 0), (5, 5)), (10, 1))

    def test_known_totals(self):
        self.assertEqual(total_air(PAIR, (BIG,)), (BIG, 1))
        self.assertEqual(total_air(BRIDGE, (1, 1, 1, 1, 5)), (1, 1))
        self.assertEqual(total_air(BRIDGE, (2, 1, 1, 2, 1)), (7, 5))
        self.assertEqual(total_air(ROW, (BIG, 1)), (BIG, BIG + 1))

    def test_what_leaves_the_inlet_arrives_at_the_outlet(self):
        for mine, widths in cases(41, 100):
            total = total_air(mine, widths)
            self.assert_fraction(total)
            air = air_of(mine, widths)
            leaves = arrives = Fraction(0)
            for w, (a, b) in enumerate(mine[1]):
                leaves += plain(air[w]) * ((a == mine[2]) - (b == mine[2]))
                arrives += plain(air[w]) * ((b == mine[3]) - (a == mine[3]))
            self.assertEqual(plain(total), leaves)
            self.assertEqual(leaves, arrives)
            self.assertGreater(leaves, 0)

    def test_a_wider_way_lets_more_air_through_unless_it_was_still(self):
        seen = set()
        for mine, widths in cases(42, 60):
            air = air_of(mine, widths)
            total = plain(total_air(mine, widths))
            for w in range(len(widths)):
                wider = widths[:w] + (widths[w] + 1 + widths[w] // 3,) + widths[w + 1:]
                now = plain(total_air(mine, wider))
                if air[w] == (0, 1):
                    self.assertEqual(now, total)
                else:
                    self.assertGreater(now, total)
                seen.add(air[w] == (0, 1))
        self.assertEqual(seen, {True, False})


class States(unittest.TestCase):
    def test_right_states(self):
        for mine, widths in cases(51, 60):
            levels = levels_for(mine, widths)
            for factor, more in ((1, 0), (3, 0), (1, -10 ** 60), (2, 17)):
                moved = tuple(level * factor + more for level in levels)
                self.assertIs(is_state(mine, widths, moved), True)

    def test_inlet_not_above_outlet(self):
        for mine, widths in cases(52, 30):
            levels = levels_for(mine, widths)
            self.assertIs(is_state(mine, widths, tuple(-level for level in levels)), False)
            self.assertIs(is_state(mine, widths, (5,) * mine[0]), False)
            self.assertIs(is_state(mine, widths, (0,) * mine[0]), False)

    def test_one_level_changed(self):
        for mine, widths in cases(53, 40):
            levels = levels_for(mine, widths)
            for x in range(mine[0]):
                for step in (1, -1, 1000):
                    changed = levels[:x] + (levels[x] + step,) + levels[x + 1:]
                    self.assertIs(is_state(mine, widths, changed), told_state(mine, widths, changed))
                    if x in told_inner(mine):
                        self.assertIs(is_state(mine, widths, changed), False)

    def test_one_width_changed(self):
        seen = set()
        for mine, widths in cases(54, 40):
            levels = levels_for(mine, widths)
            inner = told_inner(mine)
            for w, (a, b) in enumerate(mine[1]):
                changed = widths[:w] + (widths[w] + 1,) + widths[w + 1:]
                kept = levels[a] == levels[b] or not (a in inner or b in inner)
                self.assertIs(is_state(mine, changed, levels), kept)
                seen.add(kept)
        self.assertEqual(seen, {True, False})

    def test_a_difference_far_behind_the_first_digits(self):
        self.assertIs(is_state(ROW, (BIG, BIG), (BIG, 0, -BIG)), True)
        self.assertIs(is_state(ROW, (BIG, BIG), (BIG, 1, -BIG)), False)
        self.assertIs(is_state(ROW, (BIG, BIG - 1), (BIG, 0, -BIG)), False)

    def test_air_that_turns_round_in_a_ring_is_no_state(self):
        self.assertIs(is_state(HANGING, (1,) * 7, (2, 1, 0, 1, 1, 2, 0)), True)
        self.assertIs(is_state(HANGING, (1,) * 7, (2, 1, 0, 1, 2, 2, 0)), False)
        self.assertIs(is_state(HANGING, (1,) * 7, (2, 1, 0, 1, 1, 3, 0)), False)
        self.assertIs(is_state(HANGING, (1,) * 7, (2, 1, 0, 1, 1, 2, -1)), False)

    def test_only_inner_places_balance(self):
        self.assertIs(is_state(PAIR, (5,), (3, -2)), True)
        self.assertIs(is_state(PAIR, (5,), (-2, 3)), False)
        self.assertIs(is_state(PAIR, (5,), (3, 3)), False)
        self.assertIs(is_state(BACKWARD_PAIR, (5,), (-2, 3)), True)


class Pictures(unittest.TestCase):
    def test_known_pictures(self):
        self.assertEqual(picture_of(BRIDGE, (3, 2, 1, 0)), (1, 1, 1, 1, 1))
        self.assertEqual(picture_of(BRIDGE, (3, 1, 2, 0)), (1, 1, 1, 1, -1))
        self.assertEqual(picture_of(BRIDGE, (0, 1, 2, 3)), (-1, -1, -1, -1, -1))
        self.assertEqual(picture_of(TWINS, (1, 0)), (1, -1, 1))
        self.assertEqual(picture_of(ROW, (BIG, BIG - 1, BIG)), (1, -1))
        self.assertEqual(picture_of(ROW, (-BIG, -BIG, -BIG)), (0, 0))

    def test_signs_of_the_air(self):
        for mine, widths in cases(61, 60):
            picture = picture_of(mine, levels_for(mine, widths))
            self.assertIs(type(picture), tuple)
            signs = [(number > 0) - (number < 0) for number, _ in air_of(mine, widths)]
            self.assertEqual(picture, tuple(signs))
            self.assertEqual([type(sign) for sign in picture], [int] * len(mine[1]))


class ByName(unittest.TestCase):
    def test_arguments_by_name_in_another_order(self):
        widths = (1, 2, 3, 4, 5)
        levels = levels_for(BRIDGE, widths)
        self.assertEqual(levels_for(widths=widths, mine=BRIDGE), levels)
        self.assertEqual(pressures_of(widths=widths, mine=BRIDGE), pressures_of(BRIDGE, widths))
        self.assertEqual(air_of(widths=widths, mine=BRIDGE), air_of(BRIDGE, widths))
        self.assertEqual(total_air(widths=widths, mine=BRIDGE), total_air(BRIDGE, widths))
        self.assertIs(is_state(levels=levels, widths=widths, mine=BRIDGE), True)
        self.assertIs(is_state(levels=levels, widths=(1,) * 5, mine=BRIDGE), False)
        self.assertEqual(picture_of(levels=levels, mine=BRIDGE), picture_of(BRIDGE, levels))

    def test_answers_depend_on_the_arguments_alone(self):
        first = [(levels_for(m, v), air_of(m, v), total_air(m, v)) for m, v in cases(71, 20)]
        again = [(levels_for(m, v), air_of(m, v), total_air(m, v)) for m, v in cases(71, 20)]
        self.assertEqual(first, again)
        self.assertEqual(levels_for(TURNED, (1,) * 9), levels_for(TURNED, (1,) * 9))


if __name__ == "__main__":
    unittest.main()
