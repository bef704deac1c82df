"""windways.wider: the effect on the air in one way of a plain mine if another way gets wider."""

import copy
import time
import unittest

from tests import told
from tests.samples import (
    BACKWARD_PAIR, BEHIND, BRIDGE, CROSS, CROWDED, FULL, HANGING, JOINED, LADDER, LINE, PAIR, ROW, TWINS, WHEEL,
    Numbers, drawn_order, exchanged, random_mines, renamed,
)
from tests.test_amounts import MANY_ROUTES
from tests.told_amounts import effects_seen, told_effect
from windways.errors import NotPlain
from windways.plain import is_plain, reductions_for
from windways.wider import effect_of, effects_of

SQUARE = (4, ((0, 1), (0, 2), (1, 3), (2, 3)), 0, 3)
DOUBLE = (4, ((0, 1), (1, 2), (1, 2), (2, 3)), 0, 3)
# Two ways beside each other within one of two routes beside each other, behind a first way.
NESTED = (5, ((0, 1), (1, 2), (1, 2), (2, 3), (1, 3), (3, 4)), 0, 4)


def drawn_plain_mine(numbers):
    """A plain mine of up to 12 ways, made by parting ways of a smaller one, with a way that hangs here and there."""
    ways, places = [(0, 1)], 2
    while len(ways) < 4 + numbers.below(9):
        k = numbers.below(len(ways))
        a, b = ways[k]
        kind = numbers.below(5)
        if kind < 2 or places == 8:
            ways.append((a, b) if numbers.below(2) else (b, a))
        elif kind < 4:
            ways[k:k + 1] = [(a, places), (places, b) if numbers.below(2) else (b, places)]
            places += 1
        else:
            ways.append((a, places))
            places += 1
    names = drawn_order(places, numbers)
    order = drawn_order(len(ways), numbers)
    return renamed((places, tuple(ways[k] for k in order), 0, 1), names)


class Effects(unittest.TestCase):
    def test_the_document(self):
        self.assertEqual(effect_of(DOUBLE, 1, 2), -1)
        self.assertEqual(effects_of(DOUBLE), ((1, 1, 1, 1), (1, 1, -1, 1), (1, -1, 1, 1), (1, 1, 1, 1)))

    def test_known_answers(self):
        self.assertEqual(effects_of(PAIR), ((1,),))
        self.assertEqual(effects_of(BACKWARD_PAIR), ((1,),))
        self.assertEqual(effects_of(ROW), ((1, 1), (1, 1)))
        self.assertEqual(effects_of(TWINS), ((1, 0, 0), (0, 1, 0), (0, 0, 1)))
        self.assertEqual(effects_of(SQUARE), ((1, 0, 1, 0), (0, 1, 0, 1), (1, 0, 1, 0), (0, 1, 0, 1)))
        self.assertEqual(effects_of(LINE), ((1,) * 7,) * 7)
        self.assertEqual(effects_of(NESTED)[1], (1, 1, -1, 1, -1, 1))
        self.assertEqual(effects_of(NESTED)[3], (1, 1, 1, 1, -1, 1))
        self.assertEqual(effects_of(NESTED)[4], (1, -1, -1, -1, 1, 1))

    def test_idle_ways(self):
        self.assertEqual(effects_of(HANGING), ((1, 1) + (0,) * 5,) * 2 + ((0,) * 7,) * 5)
        idle = (0,) * 9
        self.assertEqual(effects_of(BEHIND), (idle,) * 6 + ((0,) * 6 + (1,) * 3,) * 3)
        for w in (2, 3, 4, 5, 6):
            self.assertEqual(effect_of(HANGING, w, w), 0)

    def test_not_plain(self):
        for mine in (BRIDGE, CROSS, WHEEL, LADDER, FULL):
            self.assertFalse(told.makes_plain(mine))
            with self.assertRaises(NotPlain):
                effects_of(mine)
            for v, w in ((0, 0), (0, 1), (4, 2)):
                with self.assertRaises(NotPlain):
                    effect_of(mine, v, w)

    def assert_effects(self, mine, numbers):
        effects = effects_of(mine)
        ways = range(len(mine[1]))
        for factor in (2, 3 * 10 ** 9):
            self.assertEqual(effects_seen(mine, numbers.widths(mine), factor), effects, mine)
        reductions = reductions_for(mine)
        self.assertEqual(effects, tuple(tuple(told_effect(mine, reductions, v, w) for w in ways) for v in ways))
        self.assertEqual(effects, tuple(tuple(effect_of(mine, v, w) for w in ways) for v in ways))
        return effects

    def test_exact_air_of_two_widths(self):
        seen = {1: 0, 0: 0, -1: 0}
        numbers = Numbers(501)
        for _ in range(80):
            mine = drawn_plain_mine(numbers)
            self.assertTrue(is_plain(mine))
            for row in self.assert_effects(mine, numbers):
                for effect in row:
                    seen[effect] += 1
        self.assertGreater(min(seen.values()), 200, seen)

    def test_drawn_mines(self):
        plain = 0
        for mine, numbers in random_mines(502, 80) + [(mine, Numbers(503)) for mine in JOINED]:
            if told.makes_plain(mine):
                self.assert_effects(mine, numbers)
                plain += 1
            else:
                with self.assertRaises(NotPlain):
                    effects_of(mine)
        self.assertGreater(plain, 20)

    def test_names_and_sides_do_not_matter(self):
        numbers = Numbers(504)
        for _ in range(30):
            mine = drawn_plain_mine(numbers)
            effects = effects_of(mine)
            self.assertEqual(effects_of(exchanged(mine)), effects)
            self.assertEqual(effects_of(renamed(mine, drawn_order(mine[0], numbers))), effects)
            self.assertEqual(tuple(zip(*effects)), effects)
            order = drawn_order(len(mine[1]), numbers)
            sorted_otherwise = effects_of((mine[0], tuple(mine[1][w] for w in order), mine[2], mine[3]))
            self.assertEqual(sorted_otherwise, tuple(tuple(effects[v][w] for w in order) for v in order))


class Calls(unittest.TestCase):
    def test_nothing_is_changed(self):
        before = copy.deepcopy(NESTED)
        self.assertEqual(effect_of(w=2, v=1, mine=NESTED), -1)
        self.assertEqual(effects_of(mine=NESTED), effects_of(NESTED))
        self.assertEqual(NESTED, before)

    def test_kinds_of_values(self):
        effects = effects_of(NESTED)
        self.assertTrue(type(effects) is tuple and all(type(row) is tuple for row in effects))
        self.assertTrue(all(type(effect) is int for row in effects for effect in row))

    def test_the_largest_mines_take_no_long(self):
        numbers = Numbers(505)
        mines = [drawn_plain_mine(numbers) for _ in range(60)] + [MANY_ROUTES, LINE, HANGING, BEHIND]
        began = time.perf_counter()
        for mine in mines:
            effects_of(mine)
        for mine in (FULL, CROWDED, LADDER, WHEEL):
            with self.assertRaises(NotPlain):
                effects_of(mine)
        self.assertLess(time.perf_counter() - began, 5)


if __name__ == "__main__":
    unittest.main()
