"""windways.routes: routes, the directions in which they use ways, and the ways that turn."""

import copy
import time
import unittest

from tests import told
from tests.samples import (
    BACKWARD_PAIR, BEHIND, BRIDGE, CROSS, FULL, HANGING, JOINED, LINE, NOT_JOINED, PAIR, ROW, SPLIT, TWINS, UNJOINED,
    WITHOUT_WAYS, Numbers, drawn_order, exchanged, full_mine, random_mines, renamed, small_mine,
)
from windways.cases import is_possible
from windways.routes import routes_of, side_in, sides_of, turning_ways

ALL = JOINED + NOT_JOINED + WITHOUT_WAYS


def mines_of_all_kinds(seed, many):
    """The samples, drawn mines, and drawn mines with some of their ways taken away."""
    found = list(ALL)
    for mine, numbers in random_mines(seed, many):
        kept = tuple(way for way in mine[1] if numbers.below(4))
        found += [mine, (mine[0], kept, mine[2], mine[3])]
    return found


class Routes(unittest.TestCase):
    def test_known_routes(self):
        self.assertEqual(routes_of(PAIR), ((0,),))
        self.assertEqual(routes_of(BACKWARD_PAIR), ((0,),))
        self.assertEqual(routes_of(TWINS), ((0,), (1,), (2,)))
        self.assertEqual(routes_of(ROW), ((0, 1),))
        self.assertEqual(routes_of(mine=BRIDGE), ((0, 2), (0, 4, 3), (1, 3), (1, 4, 2)))
        self.assertEqual(routes_of(HANGING), ((0, 1),))
        self.assertEqual(routes_of(BEHIND), ((6, 7, 8),))
        self.assertEqual(routes_of(LINE), (tuple(range(7)),))

    def test_mines_without_a_route(self):
        self.assertEqual(routes_of(UNJOINED), ((0,),))
        self.assertEqual(routes_of(SPLIT), ())
        for mine in WITHOUT_WAYS:
            self.assertEqual(routes_of(mine), ())
            self.assertEqual(turning_ways(mine), ())

    def test_all_routes(self):
        for mine in mines_of_all_kinds(71, 80):
            routes = routes_of(mine)
            self.assertIs(type(routes), tuple)
            self.assertTrue(all(type(route) is tuple for route in routes))
            self.assertEqual(routes, tuple(told.told_routes(mine)), mine)

    def test_several_ways_between_two_places(self):
        mine = (3, ((0, 1), (1, 0), (2, 1), (0, 1), (1, 2)), 0, 2)
        self.assertEqual(routes_of(mine), ((0, 2), (0, 4), (1, 2), (1, 4), (3, 2), (3, 4)))


class Sides(unittest.TestCase):
    def test_known_sides(self):
        self.assertEqual([side_in(BRIDGE, (1, 4, 2), w) for w in range(5)], [0, 1, 1, 0, -1])
        self.assertEqual([side_in(BRIDGE, (0, 4, 3), w) for w in range(5)], [1, 0, 0, 1, 1])
        self.assertEqual(side_in(w=0, mine=BACKWARD_PAIR, route=(0,)), -1)
        self.assertEqual([side_in(TWINS, (1,), w) for w in range(3)], [0, -1, 0])
        self.assertEqual(sides_of(BRIDGE, 4), (-1, 1))
        self.assertEqual(sides_of(w=0, mine=BRIDGE), (1,))
        self.assertEqual(sides_of(TWINS, 1), (-1,))
        self.assertEqual(sides_of(HANGING, 3), ())

    def test_every_way_of_every_route(self):
        for mine in mines_of_all_kinds(72, 60):
            routes = routes_of(mine)
            for w in range(len(mine[1])):
                sides = [side_in(mine, route, w) for route in routes]
                self.assertEqual(sides, [told.told_side(mine, route, w) for route in routes])
                self.assertEqual(sides_of(mine, w), tuple(sorted(set(sides) - {0})))

    def test_sides_are_the_directions_of_air_in_small_mines(self):
        numbers = Numbers(73)
        for _ in range(60):
            mine = small_mine(numbers, 5)
            pictures = {told.picture(mine, levels) for levels in told.balanced_levels(mine)}
            for w in range(len(mine[1])):
                directions = {picture[w] for picture in pictures} - {0}
                self.assertEqual(sides_of(mine, w), tuple(sorted(directions)), (mine, w))

    def test_sides_are_the_directions_of_air_in_any_mine(self):
        numbers = Numbers(74)
        for mine in JOINED + tuple(full_mine(numbers) for _ in range(20)):
            for w, (a, b) in enumerate(mine[1]):
                directions = ((-1, ((b, a, 1),)), (1, ((a, b, 1),)))
                able = tuple(side for side, facts in directions if is_possible(mine, facts))
                self.assertEqual(sides_of(mine, w), able)


class Turning(unittest.TestCase):
    def test_known_turning_ways(self):
        self.assertEqual(turning_ways(BRIDGE), (4,))
        self.assertEqual(turning_ways(mine=CROSS), (2,))
        for mine in (PAIR, BACKWARD_PAIR, TWINS, ROW, HANGING, BEHIND, LINE) + NOT_JOINED:
            self.assertEqual(turning_ways(mine), ())

    def test_all_turning_ways(self):
        counts = set()
        for mine in mines_of_all_kinds(75, 80):
            turning = turning_ways(mine)
            self.assertIs(type(turning), tuple)
            self.assertEqual(turning, told.told_turning(mine), mine)
            counts.add(len(turning))
        self.assertGreater(len(counts), 3)

    def test_names_of_places_order_of_ways_and_the_fan(self):
        for mine, numbers in random_mines(76, 60):
            turning = turning_ways(mine)
            self.assertEqual(turning_ways(renamed(mine, drawn_order(mine[0], numbers))), turning)
            self.assertEqual(turning_ways(exchanged(mine)), turning)
            order = drawn_order(len(mine[1]), numbers)
            other = (mine[0], tuple(mine[1][w] for w in order), mine[2], mine[3])
            self.assertEqual([order[w] for w in turning_ways(other)], [w for w in order if w in turning])


class Calls(unittest.TestCase):
    def test_nothing_is_changed_and_answers_stay(self):
        for mine in ALL:
            before = copy.deepcopy(mine)
            self.assertEqual([routes_of(mine), turning_ways(mine)], [routes_of(mine), turning_ways(mine)])
            self.assertEqual(mine, before)

    def test_the_largest_mines_take_no_long(self):
        numbers = Numbers(77)
        crowded = (5, ((0, 1), (1, 2), (2, 3), (3, 4)) * 3, 0, 4)
        began = time.perf_counter()
        self.assertEqual(len(routes_of(crowded)), 81)
        for mine in (FULL, crowded) + tuple(full_mine(numbers) for _ in range(30)):
            self.assertEqual(turning_ways(mine), told.told_turning(mine))
        self.assertLess(time.perf_counter() - began, 20)


if __name__ == "__main__":
    unittest.main()
