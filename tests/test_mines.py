"""windways.mines: what a mine is, and when it is joined."""

import copy
import unittest

from tests.samples import BRIDGE, FULL, HANGING, JOINED, PAIR, ROW, TWINS, UNJOINED, random_mines, told_joined
from windways.errors import InvalidMine
from windways.mines import far_end, is_joined, require_mine, ways_at

WAY = ((0, 1),)


def nested(depth, empty):
    value = empty
    for k in range(depth):
        value = {"deep": value} if k % 3 == 0 else [value] if k % 3 == 1 else (value,)
    return value


class RequireMine(unittest.TestCase):
    def assert_invalid(self, value, index):
        before = copy.deepcopy(value)
        with self.assertRaises(InvalidMine) as caught:
            require_mine(value)
        self.assertIsInstance(caught.exception, ValueError)
        kept = caught.exception.index
        self.assertEqual((kept, type(kept)), (index, type(index)), value)
        self.assertEqual(value, before)

    def test_mines_are_returned_themselves(self):
        for mine in JOINED + (UNJOINED,):
            self.assertIs(require_mine(mine), mine)
            self.assertIs(require_mine(value=mine), mine)

    def test_the_smallest_and_the_largest_mine(self):
        for mine in (PAIR, (2, ((1, 0),), 1, 0), (2, WAY * 12, 0, 1), FULL, (8, ((7, 0),), 7, 6)):
            self.assertIs(require_mine(mine), mine)

    def test_several_ways_between_two_places(self):
        for mine in (TWINS, (3, ((0, 1), (0, 1), (1, 0), (1, 2)), 0, 2)):
            self.assertIs(require_mine(mine), mine)

    def test_mines_need_not_be_joined(self):
        for mine in (UNJOINED, (8, ((3, 4),), 0, 7)):
            self.assertIs(require_mine(mine), mine)

    def test_no_tuple_of_four_parts(self):
        places, ways, inlet, outlet = BRIDGE
        for value in (
            [places, ways, inlet, outlet],
            {0: places, 1: ways, 2: inlet, 3: outlet},
            (),
            (places,),
            (places, ways, inlet),
            (places, ways, inlet, outlet, 0),
            (BRIDGE,),
            ("4", ways, inlet, outlet),
        ):
            self.assert_invalid(value, None)

    def test_other_values(self):
        for value in (None, True, False, 0, 4, -1, 10 ** 400, "", "mine", "2010", [], {}, (), (None,) * 4, ("",) * 4):
            self.assert_invalid(value, None)

    def test_deep_and_long_values(self):
        for empty in ((), [], {}, None, 0, ""):
            deep = nested(95, empty)
            self.assert_invalid(deep, None)
            self.assert_invalid((deep, WAY, 0, 1), None)
            self.assert_invalid((2, deep, 0, 1), 0 if isinstance(deep, tuple) else None)
            self.assert_invalid((2, WAY, deep, 1), None)
            self.assert_invalid((2, WAY, 0, deep), None)
            self.assert_invalid((2, (deep,), 0, 1), 0)
            self.assert_invalid((2, ((0, 1), (0, deep)), 0, 1), 1)
            self.assert_invalid((2, ((0, 1), (deep, 1)), 0, 1), 1)
        long = (0,) * 500000
        self.assert_invalid(long, None)
        self.assert_invalid((2, long, 0, 1), None)
        self.assert_invalid((2, (long,), 0, 1), 0)

    def test_places_from_two_to_eight(self):
        for places in (-2, 0, 1, 9, 10, 10 ** 30, True, False, None, "2", (2,), [2]):
            self.assert_invalid((places, WAY, 0, 1), None)
        for places in range(2, 9):
            mine = (places, WAY, 0, 1)
            self.assertIs(require_mine(mine), mine)

    def test_inlet_and_outlet_are_different_places(self):
        for inlet, outlet in (
            (0, 0), (1, 1), (-1, 1), (0, -1), (2, 0), (0, 2), (0, 10 ** 30), (-1, -1), (2, 2),
            (False, 1), (0, True), (True, 0), (1, False), (None, 1), (0, None), ("0", 1), (0, "1"), ((0,), 1), (0, [1]),
        ):
            self.assert_invalid((2, WAY, inlet, outlet), None)

    def test_ways_are_a_tuple_of_one_to_twelve(self):
        for ways in (
            [(0, 1)], {(0, 1): True}, "01", None, 1, True, (), WAY * 13, WAY * 20, ((0, 0),) * 13,
        ):
            self.assert_invalid((2, ways, 0, 1), None)
        for many in range(1, 13):
            mine = (2, WAY * many, 0, 1)
            self.assertIs(require_mine(mine), mine)

    def test_the_first_wrong_way_is_told(self):
        wrong_ways = (
            [0, 1], (), (0,), (0, 1, 2), (0, 0), (1, 1), (0, 3), (3, 0), (-1, 0), (0, -1), (0, True), (True, 0),
            (False, 1), (2, False), (True, False), (0, None), (None, 0), (0, "1"), ("01",), "01", "ab", None, 0, 1,
            True, {0: 1, 1: 0}, {}, ((0, 1),), ((0,), 1), (0, [1]), (0, 10 ** 30), (3, 3), [],
        )
        for wrong in wrong_ways:
            self.assert_invalid((3, (wrong,), 0, 2), 0)
            self.assert_invalid((3, ((0, 1), (1, 2), wrong), 0, 2), 2)
            self.assert_invalid((3, ((0, 1), wrong, (1, 2), wrong), 0, 2), 1)
            self.assert_invalid((3, ((0, 1),) * 11 + (wrong,), 0, 2), 11)

    def test_places_of_ways_are_those_of_the_mine(self):
        for places in range(2, 8):
            self.assert_invalid((places, ((0, 1), (0, places)), 0, 1), 1)
            mine = (places, ((0, places - 1), (places - 1, 0)), 0, 1)
            self.assertIs(require_mine(mine), mine)

    def test_the_frame_is_checked_before_the_ways(self):
        self.assert_invalid((3, ((0, 0),), 0, 3), None)
        self.assert_invalid((9, ((0, 0),), 0, 1), None)
        self.assert_invalid((3, ((0, 0),), 1, 1), None)
        self.assert_invalid((3, [(0, 0)], 0, 1), None)

    def test_nothing_is_modified(self):
        for value in ([2, [(0, 1)], 0, 1], {"places": 2}, (2, ([0, 1],), 0, 1), (2, ((0, 1), {"a": [1]}), 0, 1)):
            before = copy.deepcopy(value)
            with self.assertRaises(InvalidMine):
                require_mine(value)
            self.assertEqual(value, before)


class Joined(unittest.TestCase):
    def test_joined_mines(self):
        for mine in JOINED:
            self.assertIs(is_joined(mine), True, mine)

    def test_mines_that_are_not_joined(self):
        for mine in (
            UNJOINED,
            (3, ((0, 1),), 0, 1),
            (3, ((0, 1),), 0, 2),
            (3, ((0, 1), (1, 0), (0, 1)), 2, 0),
            (3, ((1, 2),), 0, 1),
            (6, ((0, 1), (1, 2), (2, 0), (3, 4), (4, 5), (5, 3)), 0, 5),
            (8, ((0, 1), (1, 2), (2, 3), (3, 4), (4, 5), (5, 6), (6, 0)), 0, 6),
        ):
            self.assertIs(is_joined(mine), False, mine)

    def test_ways_lead_in_both_directions(self):
        for ways in (((0, 1), (1, 2)), ((1, 0), (1, 2)), ((0, 1), (2, 1)), ((1, 0), (2, 1))):
            for inlet, outlet in ((0, 2), (2, 0), (1, 2), (0, 1)):
                self.assertIs(is_joined((3, ways, inlet, outlet)), True)

    def test_a_long_row_in_any_sequence(self):
        row = tuple((k, k + 1) for k in range(7))
        for ways in (row, row[::-1], row[3:] + row[:3]):
            self.assertIs(is_joined((8, ways, 0, 7)), True)
            self.assertIs(is_joined((8, ways, 7, 0)), True)
            self.assertIs(is_joined((8, ways, 4, 0)), True)
            self.assertIs(is_joined((8, tuple(way for way in ways if way != (3, 4)), 0, 7)), False)

    def test_many_mines(self):
        for mine, numbers in random_mines(4, 150):
            self.assertIs(is_joined(mine), True)
            places, ways, inlet, outlet = mine
            if len(ways) > 1:
                gone = numbers.below(len(ways))
                fewer = (places, ways[:gone] + ways[gone + 1:], inlet, outlet)
                self.assertIs(is_joined(fewer), told_joined(fewer), fewer)

    def test_by_name(self):
        self.assertIs(is_joined(mine=BRIDGE), True)


class WaysAtPlaces(unittest.TestCase):
    def test_ways_at_each_place(self):
        self.assertEqual([ways_at(BRIDGE, x) for x in range(4)], [(0, 1), (0, 2, 4), (1, 3, 4), (2, 3)])
        self.assertEqual([ways_at(ROW, x) for x in range(3)], [(0,), (0, 1), (1,)])
        self.assertEqual([ways_at(HANGING, x) for x in (0, 1, 5)], [(0, 5), (0, 1, 2, 4), (5,)])

    def test_several_ways_between_two_places(self):
        self.assertEqual((ways_at(TWINS, 0), ways_at(TWINS, 1)), ((0, 1, 2), (0, 1, 2)))

    def test_a_place_without_a_way(self):
        self.assertEqual(ways_at((3, ((0, 1),), 0, 1), 2), ())

    def test_answers_are_plain_tuples(self):
        self.assertIs(type(ways_at(BRIDGE, 0)), tuple)
        self.assertIs(type(ways_at((3, ((0, 1),), 0, 1), 2)), tuple)

    def test_many_mines(self):
        for mine, _ in random_mines(5, 100):
            for x in range(mine[0]):
                told = [w for w, (a, b) in enumerate(mine[1]) if a == x or b == x]
                self.assertEqual(ways_at(mine, x), tuple(told))

    def test_far_ends(self):
        for mine in JOINED + (UNJOINED,):
            for w, (a, b) in enumerate(mine[1]):
                self.assertEqual((far_end(mine, w, a), far_end(mine, w, b)), (b, a))

    def test_by_name(self):
        self.assertEqual(ways_at(x=1, mine=BRIDGE), (0, 2, 4))
        self.assertEqual(far_end(x=1, w=4, mine=BRIDGE), 2)
        self.assertEqual(far_end(w=2, mine=BRIDGE, x=3), 1)


if __name__ == "__main__":
    unittest.main()
