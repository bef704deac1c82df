"""windways.sures: what is sure by facts, and the pictures that are left."""

import copy
import time
import unittest
from itertools import product

from tests import told
from tests.samples import (
    BACKWARD_PAIR, BRIDGE, CROSS, FULL, HANGING, JOINED, LADDER, LINE, PAIR, ROW, TWINS, WHEEL,
    Numbers, drawn_facts, drawn_order, drawn_pair, exchanged, full_mine, random_mines, renamed, renamed_facts,
    small_mine,
)
from windways.balance import widths_for
from windways.cases import is_possible
from windways.air import is_state, total_air
from windways.sures import is_sure, known_signs, pictures_of, sign_of


def told_sign(fitting, x, y):
    """The sign of two places at levels that fit, or None if it is not the same at all of them."""
    signs = {told.sign(levels[x] - levels[y]) for levels in fitting}
    return signs.pop() if len(signs) == 1 else None


def told_cases(seed, many):
    """Small joined mines with facts, and the balanced levels that fit them."""
    numbers = Numbers(seed)
    found = []
    for k in range(many):
        mine = small_mine(numbers, 5)
        while k % 3 == 0 and mine[0] + len(mine[1]) < 14:
            mine = small_mine(numbers, 5)
        balanced = told.balanced_levels(mine)
        for count in (0, 1, 2, 3, 5):
            facts = drawn_facts(mine, numbers, count)
            found.append((mine, facts, [levels for levels in balanced if told.fits(facts, levels)]))
    return found


def with_way_split(mine, w):
    """The mine with way w made of two ways behind one another, at a new place between them."""
    places, ways, inlet, outlet = mine
    a, b = ways[w]
    return (places + 1, ways[:w] + ((a, places),) + ways[w + 1:] + ((places, b),), inlet, outlet)


def with_way_twice(mine, w):
    """The mine with another way beside way w, the other way round."""
    places, ways, inlet, outlet = mine
    return (places, ways + (ways[w][::-1],), inlet, outlet)


class Sure(unittest.TestCase):
    def test_known_facts(self):
        self.assertIs(is_sure(BRIDGE, (), (0, 1, 1)), True)
        self.assertIs(is_sure(BRIDGE, (), (1, 2, 1)), False)
        self.assertIs(is_sure(BRIDGE, (), (1, 2, 0)), False)
        self.assertIs(is_sure(BRIDGE, ((1, 2, 1),), (1, 2, 0)), True)
        self.assertIs(is_sure(facts=((1, 2, 0),), fact=(1, 2, 1), mine=BRIDGE), False)
        self.assertIs(is_sure(HANGING, (), (3, 4, 0)), True)
        self.assertIs(is_sure(HANGING, (), (3, 4, 1)), False)
        self.assertIs(is_sure(PAIR, (), (1, 0, 0)), False)
        self.assertIs(is_sure(BACKWARD_PAIR, (), (1, 0, 1)), True)

    def test_every_fact_in_small_mines(self):
        for mine, facts, fitting in told_cases(51, 60):
            for x, y, s in product(range(mine[0]), range(mine[0]), (0, 1)):
                if x != y:
                    expected = all(told.fits(((x, y, s),), levels) for levels in fitting)
                    self.assertIs(is_sure(mine, facts, (x, y, s)), expected, (mine, facts, (x, y, s)))

    def test_every_fact_is_sure_by_facts_that_no_state_fits(self):
        for mine, facts in ((BRIDGE, ((1, 0, 1),)), (ROW, ((0, 1, 1), (1, 0, 1))), (HANGING, ((3, 4, 1),))):
            self.assertFalse(is_possible(mine, facts))
            for x, y, s in product(range(mine[0]), range(mine[0]), (0, 1)):
                if x != y:
                    self.assertIs(is_sure(mine, facts, (x, y, s)), True)

    def test_given_facts_are_sure(self):
        for mine, numbers in random_mines(52, 60):
            facts = drawn_facts(mine, numbers, 4)
            for fact in facts:
                self.assertIs(is_sure(mine, facts, fact), True)

    def test_levels_along_a_line(self):
        for x, y in product(range(8), range(8)):
            if x != y:
                self.assertIs(is_sure(LINE, (), (x, y, 1)), x < y)
                self.assertIs(is_sure(LINE, (), (x, y, 0)), x < y)

    def test_twenty_facts(self):
        facts = ((0, 1, 1), (1, 2, 1), (1, 3, 1), (2, 3, 1)) * 5
        self.assertIs(is_sure(BRIDGE, facts, (0, 2, 1)), True)
        self.assertIs(is_sure(BRIDGE, facts, (2, 1, 0)), False)
        self.assertEqual(sign_of(BRIDGE, facts, 1, 2), 1)
        self.assertEqual(known_signs(BRIDGE, facts), (1, 1, 1, 1, 1))
        self.assertEqual(pictures_of(BRIDGE, facts), ((1, 1, 1, 1, 1),))


class Signs(unittest.TestCase):
    def test_known_signs(self):
        self.assertEqual(known_signs(BRIDGE, ()), (1, 1, 1, 1, None))
        self.assertEqual(known_signs(facts=((2, 1, 1),), mine=BRIDGE), (1, 1, 1, 1, -1))
        self.assertEqual(known_signs(BRIDGE, ((2, 1, 0),)), (1, 1, 1, 1, None))
        self.assertEqual(known_signs(BRIDGE, ((2, 1, 0), (1, 2, 0))), (1, 1, 1, 1, 0))
        self.assertEqual(known_signs(HANGING, ()), (1, 1, 0, 0, 0, 0, 0))
        self.assertEqual(known_signs(TWINS, ()), (1, -1, 1))
        self.assertEqual(known_signs(BACKWARD_PAIR, ()), (-1,))
        self.assertEqual(sign_of(y=2, x=1, facts=(), mine=BRIDGE), None)
        self.assertEqual(sign_of(HANGING, (), 6, 0), -1)
        self.assertEqual(sign_of(HANGING, (), 4, 3), 0)

    def test_every_sign_in_small_mines(self):
        seen = set()
        for mine, facts, fitting in told_cases(53, 50):
            if fitting:
                for x, y in product(range(mine[0]), range(mine[0])):
                    if x != y:
                        expected = told_sign(fitting, x, y)
                        seen.add(expected)
                        self.assertEqual(sign_of(mine, facts, x, y), expected, (mine, facts, x, y))
                signs = known_signs(mine, facts)
                self.assertIs(type(signs), tuple)
                self.assertEqual(signs, tuple(told_sign(fitting, a, b) for a, b in mine[1]))
        self.assertEqual(seen, {1, -1, 0, None})

    def test_signs_follow_from_what_is_sure(self):
        for mine, numbers in random_mines(54, 60):
            facts = drawn_facts(mine, numbers, 2)
            if is_possible(mine, facts):
                x, y = drawn_pair(mine, numbers)
                up, down = is_sure(mine, facts, (x, y, 1)), is_sure(mine, facts, (y, x, 1))
                level = is_sure(mine, facts, (x, y, 0)) and is_sure(mine, facts, (y, x, 0))
                expected = 1 if up else -1 if down else 0 if level else None
                self.assertEqual(sign_of(mine, facts, x, y), expected)

    def test_signs_of_the_ends_of_ways(self):
        for mine, numbers in random_mines(55, 60):
            facts = drawn_facts(mine, numbers, 1)
            if is_possible(mine, facts):
                self.assertEqual(known_signs(mine, facts), tuple(sign_of(mine, facts, a, b) for a, b in mine[1]))


class Pictures(unittest.TestCase):
    def test_known_pictures(self):
        self.assertEqual(pictures_of(BRIDGE, ()), ((1, 1, 1, 1, -1), (1, 1, 1, 1, 0), (1, 1, 1, 1, 1)))
        self.assertEqual(pictures_of(facts=((2, 1, 0),), mine=BRIDGE), ((1, 1, 1, 1, -1), (1, 1, 1, 1, 0)))
        self.assertEqual(pictures_of(BRIDGE, ((1, 0, 0),)), ())
        self.assertEqual(pictures_of(PAIR, ()), ((1,),))
        self.assertEqual(pictures_of(BACKWARD_PAIR, ()), ((-1,),))
        self.assertEqual(pictures_of(TWINS, ()), ((1, -1, 1),))
        self.assertEqual(pictures_of(HANGING, ()), ((1, 1, 0, 0, 0, 0, 0),))

    def test_all_pictures_of_small_mines(self):
        counts = set()
        for mine, facts, fitting in told_cases(56, 60):
            pictures = pictures_of(mine, facts)
            self.assertIs(type(pictures), tuple)
            self.assertEqual(pictures, tuple(sorted({told.picture(mine, levels) for levels in fitting})))
            counts.add(len(pictures))
        self.assertGreater(len(counts), 5)

    def test_five_and_six_places_with_all_ways(self):
        for places in (4, 5, 6):
            ways = tuple((a, b) for a in range(places) for b in range(a + 1, places))[:12]
            mine = (places, ways, 0, places - 1)
            fitting = told.balanced_levels(mine)
            self.assertEqual(pictures_of(mine, ()), tuple(sorted({told.picture(mine, levels) for levels in fitting})))

    def test_pictures_are_those_of_states(self):
        for mine in JOINED:
            if len(mine[1]) <= 11:
                pictures = pictures_of(mine, ())
                self.assertEqual(list(pictures), sorted(set(pictures)))
                self.assertGreater(len(pictures), 0)
                for picture in pictures:
                    facts = ()
                    for (a, b), sign in zip(mine[1], picture):
                        facts += told.sign_facts(a, b, sign)
                    self.assertTrue(is_possible(mine, facts))

    def test_facts_choose_among_the_pictures(self):
        for mine in (BRIDGE, CROSS, WHEEL, LADDER):
            whole = pictures_of(mine, ())
            for w, (a, b) in enumerate(mine[1]):
                for sign in (1, -1, 0):
                    chosen = tuple(picture for picture in whole if picture[w] == sign)
                    self.assertEqual(pictures_of(mine, told.sign_facts(a, b, sign)), chosen)

    def test_names_of_places_and_order_of_ways(self):
        for mine, numbers in random_mines(57, 60):
            facts = drawn_facts(mine, numbers, 1)
            names = drawn_order(mine[0], numbers)
            pictures = pictures_of(mine, facts)
            self.assertEqual(pictures_of(renamed(mine, names), renamed_facts(facts, names)), pictures)
            order = drawn_order(len(mine[1]), numbers)
            other = (mine[0], tuple(mine[1][w] for w in order), mine[2], mine[3])
            expected = tuple(sorted(tuple(picture[w] for w in order) for picture in pictures))
            self.assertEqual(pictures_of(other, facts), expected)

    def test_inlet_and_outlet_exchanged(self):
        for mine in JOINED + tuple(mine for mine, _ in random_mines(58, 60)):
            expected = tuple(sorted(tuple(-sign for sign in picture) for picture in pictures_of(mine, ())))
            self.assertEqual(pictures_of(exchanged(mine), ()), expected)
            signs = tuple(None if sign is None else -sign for sign in known_signs(mine, ()))
            self.assertEqual(known_signs(exchanged(mine), ()), signs)


class TwoWaysActAsOne(unittest.TestCase):
    def test_ways_behind_one_another(self):
        for mine, numbers in random_mines(59, 60):
            if mine[0] < 8 and len(mine[1]) < 12:
                w = numbers.below(len(mine[1]))
                facts = drawn_facts(mine, numbers, 1)
                split = with_way_split(mine, w)
                expected = tuple(picture + (picture[w],) for picture in pictures_of(mine, facts))
                self.assertEqual(pictures_of(split, facts), expected)

    def test_ways_beside_one_another(self):
        for mine, numbers in random_mines(60, 60):
            if len(mine[1]) < 12:
                w = numbers.below(len(mine[1]))
                facts = drawn_facts(mine, numbers, 1)
                expected = tuple(picture + (-picture[w],) for picture in pictures_of(mine, facts))
                self.assertEqual(pictures_of(with_way_twice(mine, w), facts), expected)

    def test_their_widths(self):
        for mine, numbers in random_mines(61, 60):
            w = numbers.below(len(mine[1]))
            one, two = numbers.width(), numbers.width()
            widths = [numbers.width() * (one + two) for _ in mine[1]]
            behind = widths[:w] + [one * (one + two)] + widths[w + 1:] + [two * (one + two)]
            widths[w] = one * two
            self.assertEqual(total_air(with_way_split(mine, w), behind), total_air(mine, widths))
            beside = widths[:w] + [one] + widths[w + 1:] + [two]
            widths[w] = one + two
            self.assertEqual(total_air(with_way_twice(mine, w), beside), total_air(mine, widths))


class Levels(unittest.TestCase):
    def test_balanced_levels_have_widths_that_fit_them(self):
        for mine, facts, fitting in told_cases(62, 10):
            for levels in fitting:
                self.assertTrue(is_state(mine, widths_for(mine, levels), levels))
                self.assertIn(told.picture(mine, levels), pictures_of(mine, facts))


class Calls(unittest.TestCase):
    def test_nothing_is_changed_and_answers_stay(self):
        for mine in (BRIDGE, CROSS, HANGING, LADDER):
            facts = ((0, 1, 0),)
            before = copy.deepcopy((mine, facts))
            asked = [
                (is_sure(mine, facts, (0, 1, 1)), sign_of(mine, facts, 1, 2), known_signs(mine, facts),
                 pictures_of(mine, facts))
                for _ in range(2)
            ]
            self.assertEqual(asked[0], asked[1])
            self.assertEqual((mine, facts), before)

    def test_the_largest_mines_take_no_long(self):
        numbers = Numbers(63)
        began = time.perf_counter()
        for mine in (FULL, LADDER, WHEEL) + tuple(full_mine(numbers) for _ in range(20)):
            self.assertEqual(len(known_signs(mine, ())), len(mine[1]))
            self.assertGreater(len(pictures_of(mine, ())), 0)
            facts = drawn_facts(mine, numbers, 20)
            self.assertIn(is_sure(mine, facts, drawn_facts(mine, numbers, 1)[0]), (True, False))
        self.assertLess(time.perf_counter() - began, 20)


if __name__ == "__main__":
    unittest.main()
