"""windways.doors: doors, choices of doors, undrawn ways, and mines that are alike."""

import copy
import inspect
import time
import unittest

from tests import told
from tests.samples import (
    BRIDGE, CROSS, FULL, HANGING, JOINED, LADDER, LINE, NOT_JOINED, PAIR, ROW, TWINS, UNJOINED, WHEEL, WITHOUT_WAYS,
    Numbers, drawn_facts, drawn_order, exchanged, full_mine, random_mines, renamed, renamed_facts, small_mine,
)
from tests.variants import long_values, values_of_every_kind, variants
from windways.cases import is_possible
from windways.doors import are_alike, choices_of, first_choice, require_doors, undrawn_way, with_shut
from windways.errors import InvalidDoors
from windways.plain import can_reduce, is_plain, reductions_for
from windways.sures import pictures_of


def is_told_door(mine, value):
    if type(value) is not tuple or len(value) != 2 or [type(part) for part in value] != [int, int]:
        return False
    return 0 <= value[0] < len(mine[1]) and 0 <= value[1] <= 99


def told_index(mine, value):
    """The index of InvalidDoors, or False if the value is a tuple of doors."""
    if type(value) is not tuple or len(value) > 3:
        return None
    for k, door in enumerate(value):
        if not is_told_door(mine, door) or any(door[0] == before[0] for before in value[:k]):
            return k
    return False


def drawn_doors(mine, numbers, many):
    order = drawn_order(len(mine[1]), numbers)
    return tuple((w, (0, 1, 2, 3, 99)[numbers.below(5)]) for w in order[:many])


class RequireDoors(unittest.TestCase):
    def assert_told(self, mine, value):
        index = told_index(mine, value)
        before = copy.deepcopy(value)
        if index is False:
            self.assertIs(require_doors(mine, value), value)
        else:
            with self.assertRaises(InvalidDoors) as caught:
                require_doors(mine, value)
            kept = caught.exception.index
            self.assertEqual((kept, type(kept)), (index, type(index)), value)
        self.assertEqual(value, before)

    def test_doors_are_returned_themselves(self):
        for doors in ((), ((0, 0),), ((4, 99), (0, 0), (2, 99)), ((3, 5), (1, 5))):
            self.assertIs(require_doors(BRIDGE, doors), doors)
            self.assertIs(require_doors(value=doors, mine=BRIDGE), doors)

    def test_at_most_three(self):
        self.assertEqual(require_doors(BRIDGE, ((0, 1), (1, 1), (2, 1))), ((0, 1), (1, 1), (2, 1)))
        for value in (((0, 1), (1, 1), (2, 1), (3, 1)), (None,) * 4, ((0, 1),) * 100000):
            with self.assertRaises(InvalidDoors) as caught:
                require_doors(BRIDGE, value)
            self.assertIsNone(caught.exception.index)

    def test_numbers_of_ways_and_prices(self):
        for value, index in (
            (((5, 1),), 0), (((-1, 1),), 0), (((0, -1),), 0), (((0, 100),), 0), (((0, 1), (1, 100)), 1),
            (((0, 1), (0, 2)), 1), (((0, 1), (1, 1), (0, 1)), 2), (((True, 1),), 0), (((1, True),), 0),
            (((0, 1), (False, 1)), 1), (((2, 1, 0),), 0), (((2,),), 0), (([2, 1],), 0), (((0, 100), (0, 1)), 0),
            (((0, 1), [1, 2], (0, 1)), 1), (((0, 1), (0, 100), None), 1), (((0, None),), 0), (((None, 0),), 0),
        ):
            with self.assertRaises(InvalidDoors) as caught:
                require_doors(BRIDGE, value)
            self.assertEqual(caught.exception.index, index, value)
            self.assert_told(BRIDGE, value)

    def test_values_of_every_kind(self):
        for value in values_of_every_kind():
            for whole in (value, (value,), ((0, 1), value), ((0, value),), ((value, 1),), ((1, 2), (value, 2), value)):
                self.assert_told(BRIDGE, whole)

    def test_long_values(self):
        for value in long_values():
            for whole in (value, (value,), ((0, 1), (value, 1))):
                self.assert_told(BRIDGE, whole)

    def test_one_part_changed(self):
        for mine in (BRIDGE, PAIR, FULL, UNJOINED):
            for doors in (((0, 3),), ((1, 0), (0, 99)), ((4, 3), (0, 1), (2, 7))):
                self.assert_told(mine, doors)
                for value in variants(doors):
                    self.assert_told(mine, value)


class Choices(unittest.TestCase):
    def test_a_generator(self):
        self.assertTrue(inspect.isgenerator(choices_of(((4, 3), (0, 2)))))
        self.assertEqual(list(choices_of(((4, 3), (0, 2)))), [(), (1,), (0,), (0, 1)])
        self.assertEqual(list(choices_of(doors=((1, 9),))), [(), (0,)])

    def test_no_doors(self):
        self.assertEqual(list(choices_of(())), [()])

    def test_the_same_price(self):
        self.assertEqual(
            list(choices_of(((0, 1), (1, 1), (2, 1)))),
            [(), (0,), (1,), (2,), (0, 1), (0, 2), (1, 2), (0, 1, 2)],
        )
        self.assertEqual(
            list(choices_of(((0, 0), (1, 0), (2, 0)))),
            [(), (0,), (0, 1), (0, 1, 2), (0, 2), (1,), (1, 2), (2,)],
        )
        self.assertEqual(
            list(choices_of(((0, 3), (1, 2), (2, 1)))),
            [(), (2,), (1,), (0,), (1, 2), (0, 2), (0, 1), (0, 1, 2)],
        )
        self.assertEqual(list(choices_of(((0, 99), (1, 0)))), [(), (1,), (0,), (0, 1)])

    def test_any_prices(self):
        for prices in [(a, b, c) for a in (0, 1, 2, 5, 99) for b in (0, 1, 3, 99) for c in (0, 1, 4, 98)]:
            doors = tuple(enumerate(prices))
            for many in range(4):
                choices = list(choices_of(doors[:many]))
                self.assertEqual(choices, told.told_choices(doors[:many]))
                self.assertEqual(len(choices), 2 ** many)


class WithShut(unittest.TestCase):
    def test_the_other_ways_keep_their_sequence(self):
        doors = ((4, 3), (0, 2), (2, 0))
        self.assertEqual(with_shut(BRIDGE, doors, ()), BRIDGE)
        self.assertEqual(with_shut(BRIDGE, doors, (0,)), (4, BRIDGE[1][:4], 0, 3))
        self.assertEqual(with_shut(choice=(0, 2), doors=doors, mine=BRIDGE), (4, ((0, 1), (0, 2), (2, 3)), 0, 3))
        self.assertEqual(with_shut(BRIDGE, doors, (0, 1, 2)), (4, ((0, 2), (2, 3)), 0, 3))

    def test_all_ways_shut(self):
        self.assertEqual(with_shut(PAIR, ((0, 5),), (0,)), (2, (), 0, 1))
        self.assertEqual(with_shut(TWINS, ((2, 1), (0, 1), (1, 1)), (0, 1, 2)), (2, (), 0, 1))

    def test_any_mine(self):
        numbers = Numbers(95)
        for mine in JOINED + NOT_JOINED + WITHOUT_WAYS:
            doors = drawn_doors(mine, numbers, 3)
            for choice in choices_of(doors):
                shut = with_shut(mine, doors, choice)
                self.assertEqual(shut, told.shut(mine, doors, choice))
                self.assertIs(type(shut[1]), tuple)


class FirstChoice(unittest.TestCase):
    def test_known_choices(self):
        self.assertEqual(first_choice(BRIDGE, ((4, 3), (0, 2))), (1,))
        self.assertEqual(first_choice(BRIDGE, ((4, 2), (0, 2))), (0,))
        self.assertEqual(first_choice(doors=((4, 2), (0, 3)), mine=BRIDGE), (0,))
        self.assertEqual(first_choice(BRIDGE, ((4, 0), (0, 0), (2, 0))), (0,))
        self.assertEqual(first_choice(ROW, ((0, 0), (1, 0))), ())
        self.assertEqual(first_choice(ROW, ()), ())
        self.assertIsNone(first_choice(BRIDGE, ()))
        self.assertEqual(first_choice(PAIR, ((0, 0),)), ())

    def test_no_choice_makes_it_plain(self):
        self.assertIsNone(first_choice(WHEEL, ((0, 1),)))
        self.assertIsNone(first_choice(LADDER, ((2, 1), (5, 1))))

    def test_a_choice_may_part_the_mine(self):
        # With the last way shut, place 4 is apart; with the first two shut, inlet and outlet are.
        mine = (5, BRIDGE[1] + ((1, 4),), 0, 3)
        self.assertEqual(first_choice(mine, ((0, 1), (1, 1), (5, 0))), (0,))
        self.assertEqual(first_choice(mine, ((5, 0), (4, 1))), (0, 1))
        self.assertEqual(first_choice(mine, ((5, 1), (4, 1))), (1,))
        shut = with_shut(mine, ((0, 1), (1, 1)), (0, 1))
        self.assertIsNone(reductions_for(shut))
        self.assertFalse(is_plain(mine))

    def test_drawn_doors(self):
        found = {}
        for mine, numbers in random_mines(96, 250):
            for many in range(4):
                doors = drawn_doors(mine, numbers, many)
                choices = told.told_choices(doors)
                plain = [choice for choice in choices if told.makes_plain(told.shut(mine, doors, choice))]
                choice = first_choice(mine, doors)
                self.assertEqual(choice, plain[0] if plain else None, (mine, doors))
                found[choice] = found.get(choice, 0) + 1
                if choice is not None:
                    shut = with_shut(mine, doors, choice)
                    self.assertIsNone(can_reduce(shut, reductions_for(shut)))
        self.assertGreater(len(found), 5)


class UndrawnWay(unittest.TestCase):
    def test_known_ways(self):
        self.assertIsNone(undrawn_way(ROW, ((2, 1, 0),)))
        self.assertEqual(undrawn_way(BRIDGE, ((1, 0, 0),)), None)
        self.assertEqual(undrawn_way((4, ((0, 1), (1, 3), (3, 2)), 0, 3), ((2, 3, 1),)), (0, 2))
        self.assertEqual(undrawn_way(facts=((2, 3, 1), (2, 1, 1)), mine=(4, ((0, 1), (1, 3), (3, 2)), 0, 3)), (0, 2))

    def test_the_facts_may_be_possible_without_it(self):
        for mine in JOINED:
            if len(mine[1]) <= 10:
                self.assertEqual(undrawn_way(mine, ()), (0, 1))
        self.assertEqual(undrawn_way(BRIDGE, ((1, 2, 1),)), (0, 1))

    def test_it_may_lie_beside_another_way(self):
        self.assertEqual(undrawn_way(ROW, ((0, 1, 1),)), (0, 1))
        self.assertEqual(undrawn_way(LINE, ()), (0, 1))

    def test_none_at_all(self):
        for facts in (((0, 3, 1), (3, 0, 1)), ((3, 0, 0),), ((1, 2, 1), (2, 1, 0))):
            self.assertIsNone(undrawn_way(BRIDGE, facts))

    def test_small_mines(self):
        numbers = Numbers(97)
        seen = set()
        for _ in range(60):
            mine = small_mine(numbers, 4)
            for many in (1, 2, 3, 12):
                facts = drawn_facts(mine, numbers, many)
                expected = None
                for a, b in reversed([(a, b) for a in range(mine[0]) for b in range(a + 1, mine[0])]):
                    extra = (mine[0], mine[1] + ((a, b),), mine[2], mine[3])
                    if any(told.fits(facts, levels) for levels in told.balanced_levels(extra)):
                        expected = (a, b)
                self.assertEqual(undrawn_way(mine, facts), expected, (mine, facts))
                seen.add(expected)
        self.assertGreater(len(seen), 4)

    def test_any_mine(self):
        seen = set()
        for mine, numbers in random_mines(98, 60):
            facts = drawn_facts(mine, numbers, 2)
            pair = undrawn_way(mine, facts)
            seen.add(pair)
            pairs = told.rising_pairs(mine)
            able = [one for one in pairs if is_possible(told.extra(mine, one), facts)]
            self.assertEqual(pair, able[0] if able else None)
            names = drawn_order(mine[0], numbers)
            named = undrawn_way(renamed(mine, names), renamed_facts(facts, names))
            self.assertEqual(named is None, pair is None)
        self.assertGreater(len(seen), 3)


class Alike(unittest.TestCase):
    def test_known_mines(self):
        self.assertIs(are_alike(BRIDGE, BRIDGE), True)
        self.assertIs(are_alike(mine=PAIR, other=PAIR), True)
        self.assertIs(are_alike(PAIR, (2, ((1, 0),), 0, 1)), False)
        self.assertIs(are_alike(PAIR, (2, ((1, 0),), 1, 0)), True)
        self.assertIs(are_alike(BRIDGE, CROSS), False)
        self.assertIs(are_alike(ROW, (2, ((0, 1), (0, 1)), 0, 1)), True)
        self.assertIs(are_alike(TWINS, (4, ((0, 1), (2, 1), (2, 3)), 0, 3)), True)

    def test_other_numbers_of_ways(self):
        self.assertIs(are_alike(PAIR, ROW), False)
        self.assertIs(are_alike(BRIDGE, ROW), False)
        self.assertIs(are_alike(ROW, TWINS), False)

    def test_pictures_of_small_mines(self):
        numbers = Numbers(99)
        mines = {}
        for _ in range(200):
            mine = small_mine(numbers, 4)
            mines.setdefault(len(mine[1]), []).append(mine)
        seen = set()
        for same_count in mines.values():
            pictures = [{told.picture(mine, levels) for levels in told.balanced_levels(mine)} for mine in same_count]
            for k, mine in enumerate(same_count):
                for j in range(max(0, k - 6), k + 1):
                    alike = pictures[j] == pictures[k]
                    seen.add((j == k, alike))
                    self.assertIs(are_alike(mine, same_count[j]), alike)
                    self.assertIs(are_alike(same_count[j], mine), alike)
        self.assertEqual(seen, {(True, True), (False, True), (False, False)})

    def test_names_of_places_and_the_fan(self):
        for mine, numbers in random_mines(100, 60):
            self.assertIs(are_alike(mine, renamed(mine, drawn_order(mine[0], numbers))), True)
            still = all(not any(picture) for picture in pictures_of(mine, ()))
            self.assertIs(are_alike(mine, exchanged(mine)), still or has_turned_pictures(mine))


def has_turned_pictures(mine):
    pictures = pictures_of(mine, ())
    return pictures == tuple(sorted(tuple(-sign for sign in picture) for picture in pictures))


class Calls(unittest.TestCase):
    def test_nothing_is_changed_and_answers_stay(self):
        doors, facts = ((4, 3), (0, 2)), ((1, 2, 1),)
        given = (BRIDGE, CROSS, HANGING, doors, facts)
        before = copy.deepcopy(given)
        for _ in range(2):
            self.assertEqual(list(choices_of(doors)), [(), (1,), (0,), (0, 1)])
            self.assertEqual(first_choice(BRIDGE, doors), (1,))
            self.assertEqual(undrawn_way(BRIDGE, facts), (0, 1))
            self.assertIs(are_alike(BRIDGE, CROSS), False)
        self.assertEqual(given, before)

    def test_the_largest_mines_take_no_long(self):
        numbers = Numbers(101)
        began = time.perf_counter()
        for mine in (FULL,) + tuple(full_mine(numbers) for _ in range(25)):
            first_choice(mine, drawn_doors(mine, numbers, 3))
        for mine, _ in random_mines(102, 60):
            if mine[0] == 8 and len(mine[1]) in (9, 10):
                undrawn_way(mine, drawn_facts(mine, numbers, 12))
                undrawn_way(mine, ((mine[3], mine[2], 0),))
                self.assertIs(are_alike(mine, mine), True)
        self.assertLess(time.perf_counter() - began, 20)


if __name__ == "__main__":
    unittest.main()
