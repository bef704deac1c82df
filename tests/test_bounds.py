"""windways.bounds: weights that are a bound, begun routes, and walks."""

import copy
import time
import unittest
from itertools import product

from tests import told
from tests.samples import (
    BACKWARD_PAIR, BEHIND, BRIDGE, CROSS, CROWDED, FULL, HANGING, JOINED, LADDER, LINE, PAIR, ROW, TURNED, TWINS, WHEEL,
    Numbers, full_mine, random_mines, small_mine,
)
from tests.test_amounts import MANY_ROUTES
from tests.told_amounts import (
    is_told_walk, is_walk_form, told_amounts, told_begun, told_greatest, told_ways_on,
)
from tests.variants import ODD, long_values, nested, values_of_every_kind, variants
from windways.air import levels_for
from windways.bounds import greatest_along, is_bound, is_walk, walk_for, ways_on

OUT = ("out",)
FAR = 10 ** 9


def drawn_weights(mine, numbers, shift):
    return tuple(max(-99, numbers.below(199) - 99 - shift) for _ in mine[1])


def walk_along(mine, begun):
    """The walk that goes along all routes."""
    place = dict(told_begun(mine))[begun][-1]
    if place == mine[3]:
        return OUT
    return ("on", tuple(walk_along(mine, begun + (w,)) for w in told_ways_on(mine, begun)))


class Bounds(unittest.TestCase):
    def test_the_document(self):
        self.assertIs(is_bound(CROSS, (-1, -1, 1, 0, 0)), True)
        self.assertEqual(greatest_along(CROSS, (0, 0, 1, 0, 0)), 1)
        self.assertEqual(ways_on(CROSS, (0,)), (2, 3))
        self.assertIsNone(walk_for((2, ((0, 1),), 0, 1), (1,)))

    def test_known_answers(self):
        for weight in (-99, -1, 0, 1, 99):
            for mine in (PAIR, BACKWARD_PAIR):
                self.assertEqual(greatest_along(mine, (weight,)), weight)
                self.assertIs(is_bound(mine, (weight,)), weight <= 0)
        self.assertEqual(greatest_along(TWINS, (-5, -2, -9)), -2)
        self.assertEqual(greatest_along(LINE, (99,) * 7), 693)
        self.assertEqual(greatest_along(LINE, (-99,) * 7), -693)
        self.assertIs(is_bound(ROW, (99, -99)), True)
        self.assertIs(is_bound(ROW, (99, -98)), False)
        # Idle ways may weigh whatever they like.
        self.assertIs(is_bound(HANGING, (1, -1, 99, 99, 99, 99, 99)), True)
        self.assertEqual(greatest_along(BEHIND, (99,) * 6 + (0, 0, -1)), -1)

    def assert_weights(self, mine, weights):
        greatest = told_greatest(mine, weights)
        self.assertEqual(greatest_along(mine, weights), greatest, (mine, weights))
        self.assertIs(is_bound(mine, weights), greatest <= 0)
        walk = walk_for(mine, weights)
        if greatest <= 0:
            self.assertTrue(is_told_walk(mine, weights, walk), (mine, weights, walk))
            self.assertIs(is_walk(mine, weights, walk), True)
        else:
            self.assertIsNone(walk)
            self.assertIs(is_walk(mine, weights, walk_along(mine, ())), False)
        return greatest <= 0

    def test_all_routes(self):
        seen = {True: 0, False: 0}
        for mine, numbers in random_mines(401, 150) + [(mine, Numbers(402)) for mine in JOINED + (MANY_ROUTES,)]:
            for shift in (0, 0, 60, 120, 199):
                seen[self.assert_weights(mine, drawn_weights(mine, numbers, shift))] += 1
        self.assertGreater(min(seen.values()), 200)

    def test_small_weights(self):
        for mine in (ROW, BRIDGE, TWINS):
            for weights in product((-1, 0, 1), repeat=len(mine[1])):
                self.assert_weights(mine, weights)

    def test_sums_of_exactly_zero(self):
        for mine, numbers in random_mines(403, 60):
            weights = drawn_weights(mine, numbers, 150)
            route = told.told_routes(mine)[0]
            rest = sum(weights[w] for w in route[1:])
            for more in (0, 1):
                if -99 <= more - rest <= 99:
                    chosen = tuple(more - rest if w == route[0] else weight for w, weight in enumerate(weights))
                    self.assert_weights(mine, chosen)

    def test_amounts_in_states_bear_it_out(self):
        for mine, numbers in random_mines(404, 40):
            weights = drawn_weights(mine, numbers, 100)
            if is_bound(mine, weights):
                for widths in [numbers.widths(mine) for _ in range(4)]:
                    amounts = told_amounts(mine, widths, levels_for(mine, widths))
                    self.assertLessEqual(sum(weight * amount for weight, amount in zip(weights, amounts)), 0)


class WaysOn(unittest.TestCase):
    def test_all_begun_routes(self):
        for mine in JOINED + (MANY_ROUTES,) + tuple(mine for mine, _ in random_mines(405, 60)):
            for begun, visited in told_begun(mine):
                on = ways_on(mine, begun)
                self.assertEqual(on, told_ways_on(mine, begun))
                if visited[-1] == mine[3]:
                    self.assertEqual(on, ())

    def test_known_answers(self):
        self.assertEqual(ways_on(mine=BRIDGE, begun=()), (0, 1))
        self.assertEqual(ways_on(BRIDGE, (0, 4)), (3,))
        self.assertEqual(ways_on(BRIDGE, (0, 2)), ())
        self.assertEqual(ways_on(HANGING, (0,)), (1, 2, 4))
        self.assertEqual(ways_on(HANGING, (5,)), ())
        self.assertEqual(ways_on(HANGING, (0, 1)), ())
        self.assertEqual(ways_on(BACKWARD_PAIR, ()), (0,))
        self.assertEqual(ways_on(TWINS, ()), (0, 1, 2))


class Walks(unittest.TestCase):
    def assert_walk(self, mine, weights, value, expected):
        self.assertIs(is_walk(mine, weights, value), expected, value)
        self.assertIs(is_told_walk(mine, weights, value), expected, value)

    def test_out(self):
        for weight in (-99, -1, 0, 1, 99):
            self.assert_walk(PAIR, (weight,), ("on", (OUT,)), weight <= 0)
            self.assert_walk(PAIR, (weight,), OUT, False)
        self.assert_walk(ROW, (1, -1), ("on", (("on", (OUT,)),)), True)
        self.assert_walk(ROW, (1, 0), ("on", (("on", (OUT,)),)), False)
        self.assert_walk(ROW, (0, 0), ("on", (OUT,)), False)

    def test_nothing_leads_on_from_the_outlet(self):
        self.assert_walk(PAIR, (0,), ("on", (("on", ()),)), False)
        self.assertTrue(is_walk_form(PAIR, ("on", (("on", ()),))))
        self.assert_walk(PAIR, (0,), ("on", (("on", (OUT,)),)), False)
        self.assert_walk(PAIR, (0,), ("on", ()), False)
        # Elsewhere, where no way leads on, it is right: place 5 hangs at the inlet.
        hanging = (3, ((0, 1), (0, 2)), 0, 1)
        self.assert_walk(hanging, (0, 99), ("on", (OUT, ("on", ()))), True)
        self.assert_walk(hanging, (0, 99), ("on", (OUT, OUT)), False)
        self.assert_walk(hanging, (0, 99), ("on", (("on", ()), ("on", ()))), False)
        self.assert_walk(hanging, (0, 99), ("on", (OUT, ("low", (0, 0, 0)))), False)
        self.assert_walk(hanging, (0, 99), ("on", (OUT, ("low", (0, 0, 99)))), True)

    def test_low_from_the_inlet(self):
        self.assert_walk(ROW, (-1, -2), ("low", (0, 0, 0)), True)
        self.assert_walk(ROW, (-1, -2), ("low", (3, 2, 0)), True)
        self.assert_walk(ROW, (-1, -2), ("low", (0, 2, 0)), False)
        self.assert_walk(ROW, (-1, -2), ("low", (0, 1, -1)), True)
        self.assert_walk(ROW, (-1, -2), ("low", (0, 1, 4)), False)
        self.assert_walk(ROW, (-1, -2), ("low", (1, 0, 2)), True)
        self.assert_walk(ROW, (1, -2), ("low", (0, 0, 0)), False)
        self.assert_walk(ROW, (1, -2), ("low", (0, 0, 2)), False)

    def test_low_behind_a_begun_route(self):
        # Along way 0 the sum is 5; the rest of the route falls by at least as much.
        for height, weight, expected in ((5, -5, True), (4, -5, False), (6, -5, False), (-5, -5, True), (6, -6, True)):
            self.assert_walk(ROW, (5, weight), ("on", (("low", (0, height, 0)),)), expected)
            self.assert_walk(ROW, (5, weight), ("on", (("low", (77, height, 0)),)), expected)
            self.assert_walk(ROW, (5, weight), ("on", (("low", (0, 3, 3 - height)),)), expected)
        # The height of a place that was left does not count, nor the ways at it.
        self.assert_walk(BRIDGE, (5, -5, -5, 0, 0), ("on", (("low", (9, 5, 0, 0)), ("low", (0, 0, 0, 0)))), False)
        self.assert_walk(BRIDGE, (5, -5, -5, 0, -5), ("on", (("low", (9, 5, 0, 0)), ("low", (0, 0, 0, 0)))), True)
        self.assert_walk(BRIDGE, (5, -5, -5, 0, -5), ("on", (("low", (9, 5, 0, 0)), ("low", (0, 0, 0, 1)))), False)

    def test_low_at_the_outlet(self):
        # There the difference of the heights is 0, and the outlet counts as not visited.
        for weight in (-1, 0, 1):
            self.assert_walk(PAIR, (weight,), ("on", (("low", (5, 0)),)), weight <= 0)
        hanging = (3, ((0, 1), (1, 2)), 0, 1)
        self.assert_walk(hanging, (0, -1), ("on", (("low", (5, 0, 1)),)), True)
        self.assert_walk(hanging, (0, -1), ("on", (("low", (5, 0, 2)),)), False)
        self.assert_walk(hanging, (0, 1), ("on", (("low", (5, 0, 0)),)), False)
        self.assert_walk(hanging, (0, 1), ("on", (OUT,)), True)

    def test_differences_are_never_below_zero(self):
        for heights in ((3, 0), (0, 3), (-3, 0), (0, -3)):
            self.assert_walk(PAIR, (-3,), ("low", heights), True)
            self.assert_walk(PAIR, (-2,), ("low", heights), False)
            self.assert_walk((2, ((1, 0),), 0, 1), (-3,), ("low", heights), True)
        for height in (-5, 5):
            self.assert_walk(ROW, (5, -5), ("on", (("low", (0, height, 0)),)), True)
            self.assert_walk(ROW, (5, -5), ("on", (("low", (0, 0, height)),)), True)

    def test_limits_of_heights(self):
        for height in (FAR, -FAR):
            self.assert_walk(PAIR, (0,), ("low", (height, height)), True)
            self.assert_walk(PAIR, (-1,), ("low", (height, height - (height > 0) + (height < 0))), True)
            self.assert_walk(PAIR, (0,), ("low", (height, -height)), False)
        for height in (FAR + 1, -FAR - 1, 10 ** 400, True, False, None, "0", (0,)):
            self.assert_walk(PAIR, (0,), ("low", (height, height)), False)
            self.assert_walk(PAIR, (-99,), ("low", (0, height)), False)
        for heights in ((), (0,), (0, 0, 0), [0, 0], None, 0):
            self.assert_walk(PAIR, (0,), ("low", heights), False)

    def test_weights_at_their_limits(self):
        for mine in (LINE, BRIDGE, FULL, HANGING):
            low, high = (-99,) * len(mine[1]), (99,) * len(mine[1])
            self.assert_walk(mine, low, ("low", (0,) * mine[0]), True)
            self.assert_walk(mine, low, ("low", (99,) + (0,) * (mine[0] - 1)), True)
            self.assert_walk(mine, low, ("low", (100,) + (0,) * (mine[0] - 1)), False)
            self.assert_walk(mine, high, ("low", (0,) * mine[0]), False)
            self.assert_walk(mine, low, walk_along(mine, ()), True)
            self.assert_walk(mine, high, walk_along(mine, ()), False)

    def test_lengths_of_walks(self):
        self.assert_walk(TWINS, (0, 0, 0), ("on", (OUT,) * 3), True)
        for value in (("on", (OUT,) * 2), ("on", (OUT,) * 4), ("on", [OUT] * 3), ("on", OUT), ("on",),
                      ("on", (OUT,) * 3, ()),
                      ("on", (OUT, OUT, None)), ["on", (OUT,) * 3], ("On", (OUT,) * 3), (OUT,) * 3, OUT * 2, "out",
                      ("out", ()),
                      ["out"], (), None, ("low",), ("low", (0, 0), ()), {"on": (OUT,) * 3}):
            self.assert_walk(TWINS, (0, 0, 0), value, False)

    def test_values_of_every_kind(self):
        for value in values_of_every_kind() + long_values() + [nested(96, ()), nested(97, "on")]:
            for whole in (value, ("on", value), ("low", value), ("on", (value, OUT)), (value,), (value, (OUT, OUT)),
                          ("on", (("on", (OUT, value)), OUT)), ("low", (value,) * 4)):
                self.assert_walk(BRIDGE, (-1,) * 5, whole, is_told_walk(BRIDGE, (-1,) * 5, whole))

    def test_one_part_changed(self):
        numbers = Numbers(406)
        seen = {True: 0, False: 0}
        for mine in (ROW, BRIDGE, TWINS, (3, ((0, 1), (0, 2)), 0, 1)) + tuple(small_mine(numbers, 4) for _ in range(4)):
            weights = drawn_weights(mine, numbers, 190)
            low = ("low", tuple(numbers.below(3) for _ in range(mine[0])))
            walk = walk_for(mine, weights) or ("on", tuple(walk_along(mine, ())[1]))
            for whole in (walk, low, ("on", tuple(low for _ in ways_on(mine, ())))):
                for value in variants(whole, ODD[:8] + ODD[13:16] + (OUT, low, ("on", ()))):
                    expected = is_told_walk(mine, weights, value)
                    self.assertIs(is_walk(mine, weights, value), expected, value)
                    seen[expected] += 1
        self.assertGreater(min(seen.values()), 20)

    def test_drawn_walks(self):
        seen = {True: 0, False: 0}
        for mine, numbers in random_mines(407, 60):
            for shift in (60, 150):
                weights = drawn_weights(mine, numbers, shift)
                for _ in range(6):
                    walk = drawn_walk(mine, numbers, ())
                    expected = is_told_walk(mine, weights, walk)
                    self.assertIs(is_walk(mine, weights, walk), expected, (mine, weights, walk))
                    self.assertTrue(not expected or is_bound(mine, weights))
                    seen[expected] += 1
        self.assertGreater(min(seen.values()), 40)


def drawn_walk(mine, numbers, begun):
    """A walk that mostly goes on to the outlet, and ends low here and there."""
    place = dict(told_begun(mine))[begun][-1]
    if numbers.below(12) == 0:
        return ("low", tuple(numbers.below(60) for _ in range(mine[0])))
    if place == mine[3]:
        return OUT
    return ("on", tuple(drawn_walk(mine, numbers, begun + (w,)) for w in told_ways_on(mine, begun)))


class Calls(unittest.TestCase):
    def test_nothing_is_changed(self):
        value = ("on", [("low", [0, {"a": 1}])])
        before = copy.deepcopy((BRIDGE, value))
        is_walk(value=value, weights=(0,) * 5, mine=BRIDGE)
        walk_for(weights=(-1,) * 5, mine=BRIDGE)
        is_bound(weights=(-1,) * 5, mine=BRIDGE)
        greatest_along(weights=(-1,) * 5, mine=BRIDGE)
        self.assertEqual((BRIDGE, value), before)

    def test_the_largest_mines_take_no_long(self):
        numbers = Numbers(408)
        k5 = tuple((a, b) for a in range(5) for b in range(a + 1, 5))
        began = time.perf_counter()
        for mine in (FULL, CROWDED, LADDER, WHEEL, TURNED, MANY_ROUTES, (5, k5 + ((1, 2), (2, 3)), 0, 4)) + tuple(
                full_mine(numbers) for _ in range(60)):
            weights = (-1,) * len(mine[1])
            self.assertIs(is_walk(mine, weights, walk_for(mine, weights)), True)
            greatest_along(mine, drawn_weights(mine, numbers, 0))
        self.assertLess(time.perf_counter() - began, 5)


if __name__ == "__main__":
    unittest.main()
