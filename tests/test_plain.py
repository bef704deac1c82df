"""windways.plain: reductions, and mines that are plain."""

import copy
import time
import unittest
from fractions import Fraction

from tests import told
from tests.samples import (
    BACKWARD_PAIR, BEHIND, BRIDGE, CROSS, EMPTY, FULL, HANGING, JOINED, LADDER, LINE, LONE, NOT_JOINED, PAIR, ROW,
    SPLIT, TWINS, UNJOINED, WHEEL, WITHOUT_WAYS,
    Numbers, drawn_order, exchanged, full_mine, random_mines, renamed, told_inner,
)
from windways.air import total_air
from windways.plain import can_reduce, is_plain, reductions_for
from windways.sures import pictures_of

SQUARE = (4, ((0, 1), (0, 2), (1, 3), (2, 3)), 0, 3)
ALL = JOINED + NOT_JOINED + WITHOUT_WAYS


def told_index(mine, reductions):
    fault = told.told_steps(mine, reductions)
    return None if fault is None else len(reductions) if fault == ("end",) else fault[1]


def drawn_reduction(mine, numbers, joints):
    """A reduction in the form of the document, which can be done or not."""
    inner = told_inner(mine)
    kind = numbers.below(3)
    if kind == 0 or not inner:
        i = numbers.below(joints)
        return ("beside", i, i + 1 + numbers.below(joints))
    x = inner[numbers.below(len(inner))]
    some = tuple(z for z in inner if z != x and numbers.below(2))
    if kind == 1 or not some:
        return ("behind", x)
    return ("hung", (x, mine[2], mine[3])[numbers.below(3)], some)


def doable_reductions(mine, done):
    """All reductions that can be done after those that are done."""
    inner = told_inner(mine)
    numbers = range(len(mine[1]) + len(done))
    tries = [("beside", i, j) for i in numbers for j in numbers if i < j] + [("behind", x) for x in inner]
    for x in range(mine[0]):
        others = tuple(z for z in inner if z != x)
        for bits in range(1, 2 ** len(others)):
            tries.append(("hung", x, tuple(z for k, z in enumerate(others) if bits >> k & 1)))
    return [step for step in tries if told.told_steps(mine, done + (step,)) in (None, ("end",))]


def plain_cases(seed, many):
    """Samples, drawn mines, and drawn mines with some of their ways taken away."""
    found = list(ALL)
    for mine, numbers in random_mines(seed, many):
        kept = tuple(way for way in mine[1] if numbers.below(3))
        found += [mine, (mine[0], kept, mine[2], mine[3])]
    return found


def air_along(mine, reductions, widths):
    """The width of the last joint: sums for joints beside one another, product by sum for joints behind one another."""
    joints = {w: (way, Fraction(width)) for w, (way, width) in enumerate(zip(mine[1], widths, strict=True))}
    number = len(joints)
    for step in reductions:
        if step[0] == "hung":
            joints = {k: joint for k, joint in joints.items() if not set(joint[0]) & set(step[2])}
            continue
        if step[0] == "beside":
            one, two = joints.pop(step[1]), joints.pop(step[2])
            joints[number] = (one[0], one[1] + two[1])
        else:
            at = [k for k, joint in joints.items() if step[1] in joint[0]]
            one, two = joints.pop(at[0]), joints.pop(at[1])
            ends = tuple(set(one[0] + two[0]) - {step[1]})
            joints[number] = (ends, one[1] * two[1] / (one[1] + two[1]))
        number += 1
    (last,) = joints.values()
    return last[1]


class CanReduce(unittest.TestCase):
    def assert_told(self, mine, reductions):
        index = can_reduce(mine, reductions)
        self.assertEqual(index, told_index(mine, reductions), (mine, reductions))
        return index

    def test_reductions_of_the_document(self):
        self.assertIsNone(can_reduce(SQUARE, (("behind", 1), ("behind", 2), ("beside", 4, 5))))
        self.assertEqual(can_reduce(SQUARE, (("beside", 0, 1),)), 0)
        self.assertEqual(can_reduce(reductions=(("behind", 1), ("behind", 1)), mine=SQUARE), 1)

    def test_no_reductions(self):
        self.assertIsNone(can_reduce(PAIR, ()))
        self.assertIsNone(can_reduce(BACKWARD_PAIR, ()))
        for mine in (ROW, TWINS, BRIDGE, UNJOINED, EMPTY, LONE, HANGING, (3, ((0, 1),), 0, 2)):
            self.assertEqual(can_reduce(mine, ()), 0)

    def test_all_done_but_not_reduced(self):
        self.assertEqual(can_reduce(SQUARE, (("behind", 1), ("behind", 2))), 2)
        self.assertEqual(can_reduce(TWINS, (("beside", 0, 2),)), 1)
        self.assertEqual(can_reduce(HANGING, (("hung", 1, (3, 4)),)), 1)
        self.assertEqual(can_reduce((4, ((1, 2), (2, 1)), 0, 3), (("beside", 0, 1), ("hung", 0, (1, 2)))), 2)
        self.assertEqual(can_reduce((3, ((0, 1), (1, 0)), 0, 2), (("beside", 0, 1),)), 1)

    def test_numbers_of_joints(self):
        self.assertIsNone(can_reduce(TWINS, (("beside", 0, 1), ("beside", 2, 3))))
        self.assertEqual(can_reduce(TWINS, (("beside", 0, 1), ("beside", 1, 2))), 1)
        self.assertEqual(can_reduce(TWINS, (("beside", 0, 1), ("beside", 0, 2))), 1)
        self.assertEqual(can_reduce(TWINS, (("beside", 0, 1), ("beside", 2, 4))), 1)
        self.assertEqual(can_reduce(TWINS, (("beside", 2, 60),)), 0)
        self.assertEqual(can_reduce(TWINS, (("beside", 59, 60),)), 0)
        self.assertIsNone(can_reduce(TWINS, (("beside", 1, 2), ("beside", 0, 3))))

    def test_joints_beside_one_another_join_the_same_places(self):
        self.assertEqual(can_reduce(BRIDGE, (("beside", 0, 1),)), 0)
        self.assertEqual(can_reduce(ROW, (("beside", 0, 1),)), 0)
        mine = (3, ((0, 1), (1, 2), (1, 0), (2, 1)), 0, 2)
        self.assertIsNone(can_reduce(mine, (("beside", 0, 2), ("beside", 1, 3), ("behind", 1))))
        self.assertEqual(can_reduce(mine, (("behind", 1),)), 0)
        self.assertEqual(can_reduce(mine, (("beside", 0, 2), ("behind", 1))), 1)

    def test_joints_behind_one_another_have_different_other_ends(self):
        mine = (3, ((0, 1), (0, 1), (0, 2)), 0, 2)
        self.assertEqual(can_reduce(mine, (("behind", 1),)), 0)
        self.assertIsNone(can_reduce(mine, (("beside", 0, 1), ("hung", 0, (1,)))))
        self.assertEqual(can_reduce(mine, (("hung", 0, (1,)), ("behind", 1))), 1)
        self.assertEqual(can_reduce(mine, (("hung", 0, (1,)), ("hung", 0, (1,)))), 1)

    def test_parts_that_hang_at_inlet_outlet_and_inner_places(self):
        steps = (("hung", 0, (5,)), ("hung", 2, (6,)), ("hung", 1, (3, 4)), ("behind", 1))
        self.assertIsNone(can_reduce(HANGING, steps))
        self.assertIsNone(can_reduce(HANGING, steps[2:3] + steps[1::-1] + steps[3:]))
        self.assertEqual(can_reduce(HANGING, steps[:3] + steps[2:]), 3)
        self.assertEqual(can_reduce(HANGING, (("hung", 1, (3,)),)), 0)
        self.assertEqual(can_reduce(HANGING, (("hung", 0, (3, 4)),)), 0)
        self.assertEqual(can_reduce(HANGING, (("hung", 2, (5,)),)), 0)
        self.assertEqual(can_reduce(HANGING, (("hung", 3, (4,)),)), 0)
        self.assertEqual(can_reduce(HANGING, (("hung", 0, (1, 3, 4)),)), 0)
        self.assertIsNone(can_reduce(BEHIND, (("hung", 2, (3, 4)), ("hung", 5, (6, 7)), ("behind", 0), ("behind", 1))))

    def test_a_part_that_hangs_has_an_end_of_a_joint(self):
        mine = (5, ((0, 1), (1, 2)), 0, 2)
        self.assertEqual(can_reduce(mine, (("hung", 0, (3,)),)), 0)
        self.assertEqual(can_reduce(mine, (("hung", 0, (3, 4)),)), 0)
        mine = (5, ((0, 1), (1, 2), (1, 3)), 0, 2)
        self.assertIsNone(can_reduce(mine, (("hung", 1, (3, 4)), ("behind", 1))))

    def test_places_that_hang_nowhere(self):
        mine = (5, ((0, 4), (1, 2), (2, 3), (3, 1)), 0, 4)
        for x in (0, 4):
            self.assertIsNone(can_reduce(mine, (("hung", x, (1, 2, 3)),)))
        self.assertEqual(can_reduce(mine, (("hung", 0, (1, 2)),)), 0)
        self.assertIsNone(can_reduce(mine, (("hung", 1, (2, 3)),)))
        mine = (7, mine[1] + ((5, 6),), 0, 4)
        self.assertIsNone(can_reduce(mine, (("hung", 0, (1, 2, 3)), ("hung", 6, (5,)))))
        self.assertIsNone(can_reduce(mine, (("hung", 4, (1, 2, 3, 5, 6)),)))

    def test_forty_reductions(self):
        self.assertEqual(can_reduce(SQUARE, (("behind", 1),) + (("behind", 2),) * 39), 2)
        whole = (("behind", 1), ("behind", 2), ("beside", 4, 5))
        self.assertEqual(can_reduce(SQUARE, whole + (("behind", 1),) * 37), 3)

    def test_drawn_reductions(self):
        numbers = Numbers(81)
        seen = set()
        for mine in plain_cases(82, 60):
            for _ in range(12):
                steps = tuple(drawn_reduction(mine, numbers, len(mine[1]) + 1) for _ in range(numbers.below(4)))
                seen.add(self.assert_told(mine, steps))
                found = told.makes_plain(mine) and reductions_for(mine)
                if found:
                    k = numbers.below(len(found) + 1)
                    seen.add(self.assert_told(mine, found[:k] + steps + found[k:]))
                    self.assert_told(mine, found[:k] + found[k + 1:])
        self.assertLessEqual({None, 0, 1, 2, 3}, seen)


class ReductionsFor(unittest.TestCase):
    def test_known_mines(self):
        self.assertEqual(reductions_for(PAIR), ())
        self.assertEqual(reductions_for(mine=BACKWARD_PAIR), ())
        self.assertEqual(reductions_for(ROW), (("behind", 1),))
        for mine in (BRIDGE, CROSS, WHEEL, LADDER, SPLIT, EMPTY, LONE):
            self.assertIsNone(reductions_for(mine))
        for mine in (SQUARE, TWINS, HANGING, BEHIND, LINE, UNJOINED):
            self.assertIsNone(can_reduce(mine, reductions_for(mine)))

    def test_reductions_reduce_what_has_a_route_and_no_way_that_turns(self):
        seen = set()
        for mine in plain_cases(83, 200):
            reductions = reductions_for(mine)
            plain = told.makes_plain(mine)
            seen.add(plain)
            self.assertEqual(reductions is not None, plain, mine)
            if plain:
                self.assertTrue(told.are_reductions_form(mine, reductions), (mine, reductions))
                self.assertIsNone(told.told_steps(mine, reductions), (mine, reductions))
                self.assertIsNone(can_reduce(mine, reductions))
        self.assertEqual(seen, {True, False})

    def test_parts_that_hang_as_a_whole(self):
        # Four places with all ways between them have no joints beside or behind one another.
        for x, some in ((0, (2, 3, 4)), (1, (2, 3, 4)), (5, (2, 3, 4)), (5, (6, 3, 2)), (7, (4, 3, 2))):
            block = (x,) + some
            ways = tuple((block[j], block[k]) for j in range(4) for k in range(j))
            for rest in (((0, 1),), ((0, 5), (5, 1)), ((0, 7), (7, 5), (5, 1)), ((0, 5), (1, 5), (0, 1))):
                for mine in ((8, ways + rest, 0, 1), (8, rest + ways, 1, 0)):
                    reductions = reductions_for(mine)
                    self.assertIsNone(told.told_steps(mine, reductions))
                    hung = [step[2] for step in reductions if step[0] == "hung"]
                    self.assertIn(tuple(sorted(some)), [tuple(z for z in part if z in some) for part in hung])
        self.assertIsNone(reductions_for((5, tuple((j, k) for j in range(4) for k in range(j)), 0, 3)))

    def test_a_part_of_six_places_that_hangs_as_a_whole(self):
        part = ((0, 4), (3, 4), (2, 5), (2, 7), (3, 6), (4, 6), (0, 5), (0, 7), (5, 7), (2, 3), (0, 6))
        for inlet, outlet in ((0, 1), (1, 0)):
            self.assertEqual(reductions_for((8, ((0, 1),) + part, inlet, outlet)), (("hung", 0, (2, 3, 4, 5, 6, 7)),))

    def test_any_sequence_of_reductions_leads_to_the_end(self):
        for mine, numbers in random_mines(84, 60):
            if mine[0] <= 6:
                done = ()
                steps = doable_reductions(mine, done)
                while steps and told.told_steps(mine, done) is not None:
                    done += (steps[numbers.below(len(steps))],)
                    steps = doable_reductions(mine, done)
                self.assertEqual(told.told_steps(mine, done) is None, is_plain(mine), (mine, done))
                self.assertEqual(can_reduce(mine, done) is None, is_plain(mine))

    def test_widths_carried_along_end_at_the_total_air(self):
        many = 0
        for mine, numbers in random_mines(85, 120):
            reductions = reductions_for(mine)
            if reductions is not None:
                many += 1
                widths = numbers.widths(mine)
                told_air = air_along(mine, reductions, widths)
                self.assertEqual(total_air(mine, widths), (told_air.numerator, told_air.denominator))
        self.assertGreater(many, 30)


class Plain(unittest.TestCase):
    def test_known_mines(self):
        for mine in (PAIR, BACKWARD_PAIR, ROW, TWINS, SQUARE, HANGING, BEHIND, LINE):
            self.assertIs(is_plain(mine), True)
        for mine in (BRIDGE, CROSS, WHEEL, LADDER, FULL):
            self.assertIs(is_plain(mine), False)
        self.assertIs(is_plain(mine=(2, ((0, 1),), 1, 0)), True)

    def test_a_mine_is_plain_if_it_has_one_picture(self):
        numbers = Numbers(86)
        for mine in JOINED + tuple(mine for mine, _ in random_mines(87, 100)) + (full_mine(numbers),):
            self.assertEqual(is_plain(mine), len(pictures_of(mine, ())) == 1)
            self.assertEqual(is_plain(mine), not told.told_turning(mine))

    def test_names_of_places_order_of_ways_and_the_fan(self):
        for mine, numbers in random_mines(88, 80):
            plain = is_plain(mine)
            self.assertIs(is_plain(renamed(mine, drawn_order(mine[0], numbers))), plain)
            self.assertIs(is_plain(exchanged(mine)), plain)
            order = drawn_order(len(mine[1]), numbers)
            other = (mine[0], tuple(mine[1][w][::numbers.below(2) * 2 - 1] for w in order), mine[2], mine[3])
            self.assertIs(is_plain(other), plain)


class Calls(unittest.TestCase):
    def test_nothing_is_changed_and_answers_stay(self):
        for mine in ALL:
            before = copy.deepcopy(mine)
            reductions = reductions_for(mine)
            self.assertEqual(reductions_for(mine), reductions)
            given = copy.deepcopy(reductions)
            self.assertEqual(can_reduce(mine, reductions or ()), can_reduce(mine, reductions or ()))
            self.assertEqual((mine, reductions), (before, given))

    def test_the_largest_mines_take_no_long(self):
        numbers = Numbers(89)
        began = time.perf_counter()
        for mine in (FULL, (2, ((0, 1),) * 12, 0, 1)) + tuple(full_mine(numbers) for _ in range(60)):
            reductions = reductions_for(mine)
            self.assertEqual(is_plain(mine), reductions is not None)
            self.assertIn(can_reduce(mine, (reductions or (("behind", 1),)) * 3), range(41))
        self.assertLess(time.perf_counter() - began, 20)


if __name__ == "__main__":
    unittest.main()
