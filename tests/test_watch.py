"""windways.watch: watches, their deeds, and their answers after every history."""

import copy
import inspect
import time
import unittest

from tests import told
from tests.samples import (
    BEHIND, BRIDGE, CROSS, CROWDED, FULL, HANGING, JOINED, LADDER, LINE, NOT_JOINED, PAIR, ROW, TWINS, WHEEL,
    WITHOUT_WAYS, Numbers, drawn_facts, drawn_pair, full_mine, random_mines, small_mine, told_joined,
)
from tests.told_amounts import is_amount_claim
from tests.variants import ODD, long_values, nested, values_of_every_kind, variants
from windways.amountchecker import first_amount_fault
from windways.amountclaims import decide_amount
from windways.amounts import same_air
from windways.cases import is_possible
from windways.checker import first_fault
from windways.claims import decide
from windways.errors import (
    CannotDig, CannotShut, Impossible, InvalidClaim, InvalidFacts, InvalidMine, NothingDone, NotJoined, NotPlain,
    Refused,
)
from windways.mines import require_mine
from windways.routes import turning_ways
from windways.sures import known_signs, sign_of
from windways.watch import Watch
from windways.wider import effects_of

SQUARE = (4, ((0, 1), (0, 2), (1, 3), (2, 3)), 0, 3)
EVEN = ((1, 2, 0), (2, 1, 0))
METHODS = {
    "see": ["fact"], "shut": ["way"], "dig": ["pair"], "mine": [], "facts": [], "deeds": [], "sign": ["x", "y"],
    "signs": [],
    "turning": [], "paper_of": ["fact"], "undo": [], "twin": [], "within": ["way", "others"], "same_air": [],
    "effects": [],
}


def told_after(mine, facts, deed):
    """The mine and the facts after a deed, or the class of the error, by what the document says of deeds."""
    places, ways, inlet, outlet = mine
    word, value = deed
    if word == "see":
        if not told.is_fact(mine, value) or len(facts) == 12:
            return InvalidFacts
        return (mine, facts + (value,)) if is_possible(mine, facts + (value,)) else Impossible
    if word == "shut":
        if not told.is_int(value) or not 0 <= value < len(ways):
            return CannotShut
        ends = ways[value]
        after = (places, tuple(way for w, way in enumerate(ways) if w != value), inlet, outlet)
        if not after[1] or not told_joined(after):
            return CannotShut
    else:
        if not told.is_pair(mine, value) or len(ways) == 12:
            return CannotDig
        ends = value
        after = (places, ways + (value,), inlet, outlet)
    equal = not is_possible(mine, facts + (ends + (1,),)) and not is_possible(mine, facts + (ends[::-1] + (1,),))
    return (after, facts if equal else ())


def told_state(first, deeds):
    """The mine and the facts after deeds that can be done, from the first mine on."""
    state = (first, ())
    for deed in deeds:
        state = told_after(*state, deed)
    return state


def everything(watch):
    """All that a watch tells without arguments."""
    return (watch.mine(), watch.facts(), watch.deeds(), len(watch), watch.signs(), watch.turning(), watch.same_air())


def drawn_deed(mine, facts, numbers):
    """A deed that can perhaps be done."""
    kind = numbers.below(5)
    if kind < 2:
        return ("see", drawn_facts(mine, numbers, 1)[0])
    if kind < 4:
        return ("shut", numbers.below(len(mine[1]) + 1))
    return ("dig", drawn_pair(mine, numbers))


class Watches(unittest.TestCase):
    def assert_refused(self, watch, error, fields, method, *arguments):
        """The method raises the error with these fields, and nothing changes."""
        before = everything(watch)
        with self.assertRaises(error) as caught:
            getattr(watch, method)(*arguments)
        self.assertIs(type(caught.exception), error)
        for name, value in fields.items():
            self.assertEqual(getattr(caught.exception, name), value)
            self.assertIs(type(getattr(caught.exception, name)), type(value))
        self.assertEqual(everything(watch), before)

    def assert_not_added(self, watch, deeds, index, reason):
        before = everything(watch)
        same = watch
        with self.assertRaises(Refused) as caught:
            same += deeds
        self.assertEqual((caught.exception.index, caught.exception.reason), (index, reason))
        self.assertIs(type(caught.exception.index), int)
        self.assertEqual(everything(watch), before)

    def assert_answers(self, watch, first, deeds):
        """All answers are those of the other functions for the mine and the facts after the deeds."""
        mine, facts = told_state(first, deeds)
        self.assertEqual((watch.mine(), watch.facts()), (mine, facts))
        self.assertEqual((watch.deeds(), len(watch)), (tuple(deeds), len(deeds)))
        self.assertEqual(watch.signs(), known_signs(mine, facts))
        self.assertEqual(watch.turning(), turning_ways(mine))
        self.assertEqual(watch.same_air(), same_air(mine))
        for x in range(mine[0]):
            for y in range(mine[0]):
                self.assertEqual(watch.sign(x, y), 0 if x == y else sign_of(mine, facts, x, y))


class TheClass(unittest.TestCase):
    def test_methods_are_defined_in_the_class_itself(self):
        self.assertEqual(Watch.__module__, "windways.watch")
        for name, parameters in METHODS.items():
            self.assertIn(name, vars(Watch))
            self.assertEqual(list(inspect.signature(vars(Watch)[name]).parameters), ["self"] + parameters, name)
        for name in ("__init__", "__len__", "__eq__", "__iadd__"):
            self.assertIn(name, vars(Watch))
        self.assertEqual(list(inspect.signature(Watch).parameters), ["mine"])


class Making(Watches):
    def test_the_document(self):
        watch = Watch((4, ((0, 1), (0, 2), (1, 3), (2, 3), (1, 2)), 0, 3))
        watch += (("see", (1, 2, 1)),)
        signs = watch.signs()
        watch.shut(4)
        self.assertEqual((signs, watch.facts(), watch.sign(1, 2), watch.turning(), len(watch)),
                         ((1,) * 5, (), None, (), 2))

    def test_a_new_watch(self):
        for mine in JOINED:
            watch = Watch(mine=mine)
            self.assert_answers(watch, mine, ())
            self.assertEqual(watch.facts(), ())

    def test_wrong_mines(self):
        for value in values_of_every_kind() + long_values() + list(NOT_JOINED + WITHOUT_WAYS) + list(variants(ROW)):
            try:
                require_mine(value)
            except InvalidMine as wrong:
                with self.assertRaises(InvalidMine) as caught:
                    Watch(value)
                self.assertEqual(caught.exception.index, wrong.index)
                continue
            if told_joined(value):
                self.assertEqual(Watch(value).mine(), value)
            else:
                with self.assertRaises(NotJoined):
                    Watch(value)
        with self.assertRaises(InvalidMine) as caught:
            Watch((4, ((0, 1), (2, 2)), 0, 3))
        self.assertEqual(caught.exception.index, 1)


class Seeing(Watches):
    def test_facts_are_added_at_the_end(self):
        watch = Watch(BRIDGE)
        self.assertIsNone(watch.see((1, 2, 0)))
        self.assertIsNone(watch.see(fact=(0, 1, 1)))
        self.assertEqual(watch.facts(), ((1, 2, 0), (0, 1, 1)))
        self.assert_answers(watch, BRIDGE, (("see", (1, 2, 0)), ("see", (0, 1, 1))))

    def test_a_fact_seen_twice(self):
        watch = Watch(BRIDGE)
        for many in range(1, 13):
            watch.see((1, 2, 1))
            self.assertEqual(watch.facts(), ((1, 2, 1),) * many)
            self.assertEqual(len(watch), many)
        self.assert_refused(watch, InvalidFacts, {"index": 12}, "see", (1, 2, 1))
        self.assert_refused(watch, InvalidFacts, {"index": 12}, "see", (2, 1, 1))
        self.assert_refused(watch, InvalidFacts, {"index": 12}, "see", None)
        watch.undo()
        watch.see((0, 1, 0))
        self.assertEqual(watch.facts(), ((1, 2, 1),) * 11 + ((0, 1, 0),))

    def test_wrong_facts(self):
        watch = Watch(BRIDGE)
        for many in (0, 1, 2):
            for value in values_of_every_kind() + [(0, 4, 1), (0, 1, 2), (0, 1, True), (True, 0, 1), (1, 1, 0),
                                                   [0, 1, 1], (0, 1)]:
                if not told.is_fact(BRIDGE, value):
                    self.assert_refused(watch, InvalidFacts, {"index": many}, "see", value)
            watch.see((1, 2, 0))
        for value in long_values() + list(variants((1, 2, 1))):
            if not told.is_fact(BRIDGE, value):
                self.assert_refused(watch, InvalidFacts, {"index": 3}, "see", value)

    def test_facts_that_are_not_possible(self):
        watch = Watch(BRIDGE)
        for fact in ((1, 0, 1), (3, 0, 0), (3, 1, 1), (1, 0, 0), (3, 2, 0)):
            self.assert_refused(watch, Impossible, {}, "see", fact)
        watch.see((1, 2, 1))
        for fact in ((2, 1, 1), (2, 1, 0), (1, 0, 1)):
            self.assert_refused(watch, Impossible, {}, "see", fact)
        watch.see((1, 2, 0))
        self.assertEqual(len(watch), 2)


class Shutting(Watches):
    def test_a_way_that_is_surely_still(self):
        watch = Watch(BRIDGE)
        watch += tuple(("see", fact) for fact in EVEN)
        self.assertEqual(watch.signs(), (1, 1, 1, 1, 0))
        watch.shut(4)
        self.assertEqual((watch.mine(), watch.facts()), (SQUARE, EVEN))
        self.assertEqual(watch.sign(1, 2), 0)
        watch.undo()
        watch.shut(way=0)
        self.assertEqual((watch.mine(), watch.facts()), ((4, ((0, 2), (1, 3), (2, 3), (1, 2)), 0, 3), ()))
        self.assertEqual(watch.sign(1, 2), -1)

    def test_facts_are_forgotten(self):
        watch = Watch(BRIDGE)
        watch.see((1, 2, 0))
        watch.shut(4)
        self.assertEqual((watch.facts(), watch.sign(1, 2)), ((), None))
        watch.undo()
        self.assertEqual(watch.facts(), ((1, 2, 0),))

    def test_ways_of_hanging_parts_are_still(self):
        watch = Watch(HANGING)
        watch.see((0, 1, 1))
        watch.shut(4)
        self.assertEqual(watch.facts(), ((0, 1, 1),))
        # Without that way the places 3 and 4 hang on the ways 2 and 3 alone.
        for way in (2, 3, 4, 5):
            self.assert_refused(watch, CannotShut, {"way": way}, "shut", way)

    def test_later_ways_get_smaller_numbers(self):
        watch = Watch(TWINS)
        watch.shut(0)
        self.assertEqual(watch.mine(), (2, ((1, 0), (0, 1)), 0, 1))
        watch.shut(1)
        self.assertEqual(watch.mine(), (2, ((1, 0),), 0, 1))
        self.assert_refused(watch, CannotShut, {"way": 0}, "shut", 0)
        self.assert_refused(watch, CannotShut, {"way": 1}, "shut", 1)

    def test_ways_that_cannot_be_shut(self):
        for mine in JOINED:
            watch = Watch(mine)
            for way in range(len(mine[1])):
                rest = (mine[0], mine[1][:way] + mine[1][way + 1:], mine[2], mine[3])
                if not rest[1] or not told_joined(rest):
                    self.assert_refused(watch, CannotShut, {"way": way}, "shut", way)
                else:
                    watch.shut(way)
                    self.assertEqual(watch.mine(), rest)
                    watch.undo()
        self.assert_refused(Watch(PAIR), CannotShut, {"way": 0}, "shut", 0)

    def test_wrong_ways(self):
        watch = Watch(BRIDGE)
        for value in values_of_every_kind() + long_values() + [5, -1, True, False, "0", (0,), [0]]:
            if not told.is_int(value) or not 0 <= value < 5:
                self.assert_refused(watch, CannotShut, {"way": value}, "shut", value)


class Digging(Watches):
    def test_a_way_between_places_that_are_surely_equal(self):
        watch = Watch(SQUARE)
        watch += tuple(("see", fact) for fact in EVEN)
        watch.dig((2, 1))
        self.assertEqual((watch.mine(), watch.facts()), ((4, SQUARE[1] + ((2, 1),), 0, 3), EVEN))
        watch.dig(pair=(0, 1))
        self.assertEqual((watch.mine(), watch.facts()), ((4, SQUARE[1] + ((2, 1), (0, 1)), 0, 3), ()))

    def test_facts_are_forgotten(self):
        watch = Watch(SQUARE)
        watch.see((1, 2, 0))
        watch.dig((1, 2))
        self.assertEqual((watch.mine()[1][-1], watch.facts()), ((1, 2), ()))

    def test_the_twelfth_way_and_the_thirteenth(self):
        watch = Watch(PAIR)
        for many in range(2, 13):
            watch.dig((1, 0))
            self.assertEqual(len(watch.mine()[1]), many)
        self.assert_refused(watch, CannotDig, {"pair": (0, 1)}, "dig", (0, 1))
        self.assert_refused(watch, CannotDig, {"pair": None}, "dig", None)
        watch.shut(3)
        watch.dig((0, 1))
        self.assertEqual(len(watch.mine()[1]), 12)
        self.assert_refused(Watch(FULL), CannotDig, {"pair": (0, 7)}, "dig", (0, 7))

    def test_wrong_pairs(self):
        watch = Watch(BRIDGE)
        for value in values_of_every_kind() + long_values() + [(0, 4), (0, 0), (-1, 0), (True, 0), (0, 1, 2), [0, 1],
                                                               (0,), "01"]:
            if not told.is_pair(BRIDGE, value):
                self.assert_refused(watch, CannotDig, {"pair": value}, "dig", value)


class Signs(Watches):
    def test_places_that_are_none(self):
        watch = Watch(BRIDGE)
        for value in values_of_every_kind() + long_values() + [4, -1, True, False]:
            if not told.is_place(BRIDGE, value):
                for pair in ((value, 0), (0, value), (value, value), (value, 3)):
                    self.assertIsNone(watch.sign(*pair))

    def test_the_same_place_twice(self):
        watch = Watch(BRIDGE)
        for x in range(4):
            self.assertEqual(watch.sign(x, x), 0)
        self.assertEqual(watch.sign(y=3, x=0), 1)
        self.assertEqual(watch.sign(3, 0), -1)
        self.assertIsNone(watch.sign(1, 2))

    def test_papers(self):
        watch = Watch(BRIDGE)
        for deed in (None, (1, 2, 1), (0, 1, 1)):
            if deed is not None:
                watch.see(deed)
            for fact in ((1, 2, 1), (1, 2, 0), (2, 1, 0), (0, 3, 1), (3, 0, 1)):
                paper = watch.paper_of(fact=fact)
                self.assertEqual(paper, decide(("sure", BRIDGE, watch.facts(), fact)))
                self.assertIsNone(first_fault(paper))
        for value in values_of_every_kind() + long_values() + [(1, 2, True), (0, 4, 1), (0, 0, 1), [1, 2, 1], (1, 2)]:
            if not told.is_fact(BRIDGE, value):
                self.assert_refused(watch, InvalidFacts, {"index": None}, "paper_of", value)
        for _ in range(10):
            watch.see((1, 2, 1))
        self.assertEqual(len(watch.facts()), 12)
        self.assertIsNone(first_fault(watch.paper_of((2, 1, 1))))


class Undoing(Watches):
    def test_nothing_done(self):
        watch = Watch(BRIDGE)
        self.assert_refused(watch, NothingDone, {}, "undo")
        watch.see((1, 2, 1))
        self.assertIsNone(watch.undo())
        self.assert_refused(watch, NothingDone, {}, "undo")

    def test_back_to_the_first_mine(self):
        for mine, numbers in random_mines(901, 12):
            watch, deeds = Watch(mine), []
            for _ in range(12):
                deed = drawn_deed(watch.mine(), watch.facts(), numbers)
                if type(told_after(*told_state(mine, deeds), deed)) is tuple:
                    getattr(watch, deed[0])(deed[1])
                    deeds.append(deed)
            while deeds:
                self.assert_answers(watch, mine, deeds)
                watch.undo()
                deeds.pop()
            self.assert_answers(watch, mine, ())
            self.assert_refused(watch, NothingDone, {}, "undo")

    def test_only_the_last_of_several_deeds(self):
        watch = Watch(BRIDGE)
        watch += (("see", (1, 2, 0)), ("see", (2, 1, 0)), ("shut", 4), ("shut", 0))
        for many in (3, 2, 1, 0):
            watch.undo()
            self.assertEqual(len(watch), many)
        self.assertEqual(watch, Watch(BRIDGE))


class Adding(Watches):
    def test_several_deeds_in_place(self):
        watch = Watch(BRIDGE)
        same = watch
        watch += (("see", (1, 2, 0)), ("see", (2, 1, 0)), ("shut", 4), ("dig", (1, 2)))
        self.assertIs(watch, same)
        self.assertEqual(watch.facts(), EVEN)
        watch += ()
        self.assertIs(watch, same)
        self.assertEqual(len(watch), 4)
        self.assert_answers(watch, BRIDGE, (("see", (1, 2, 0)), ("see", (2, 1, 0)), ("shut", 4), ("dig", (1, 2))))

    def test_sixty_and_sixty_one(self):
        deeds = (("dig", (0, 1)), ("shut", 5)) * 30
        watch = Watch(BRIDGE)
        watch += deeds
        self.assertEqual(len(watch), 60)
        watch += deeds[:59]
        self.assertEqual(len(watch), 119)
        self.assert_not_added(watch, deeds + deeds[:1], -1, None)
        self.assert_not_added(watch, (("see", None),) * 61, -1, None)
        self.assert_not_added(watch, (("see", None),) * 60, 0, "InvalidFacts")

    def test_other_forms(self):
        watch = Watch(BRIDGE)
        watch.see((1, 2, 1))
        right = ("see", (1, 2, 1))
        for deeds in (
            [right], right, (right, None), (right, ("look", 1)), (right, ("see",)), (right, ("see", (1, 2, 1), 0)),
            (list(right),),
            (right, ()), (("See", (1, 2, 1)),), ((None, 1),), ((0, 1),), (([], 1),), (({}, 1),), ((("see",), 1),),
            (("undo", None),),
            (("mine", 0),), {"see": 1}, "see", None, 0, True, watch, Watch(BRIDGE), (watch,), ("see", 1),
            (("see", 1), ["shut", 0]),
        ):
            self.assert_not_added(watch, deeds, -1, None)
        for value in values_of_every_kind() + long_values():
            if value != ():
                self.assert_not_added(watch, value, -1, None)
                self.assert_not_added(watch, (right, value), -1, None)

    def test_a_deed_refused_at_any_place(self):
        good = (("see", (1, 2, 0)), ("see", (2, 1, 0)), ("shut", 4), ("dig", (0, 3)))
        wrong = (
            (("see", (0, 4, 1)), "InvalidFacts"), (("see", [1, 2, 1]), "InvalidFacts"),
            (("see", (3, 0, 1)), "Impossible"),
            (("shut", 9), "CannotShut"), (("shut", None), "CannotShut"), (("dig", (1, 1)), "CannotDig"),
            (("dig", {}), "CannotDig"),
        )
        for before in ((), (("see", (0, 1, 1)),)):
            for index in range(len(good) + 1):
                for deed, reason in wrong:
                    watch = Watch(BRIDGE)
                    watch += before
                    self.assert_not_added(watch, good[:index] + (deed,) + good[index:], index, reason)
                    self.assert_not_added(watch, good[:index] + (deed, ("see", None)), index, reason)
        watch = Watch(PAIR)
        self.assert_not_added(watch, (("dig", (0, 1)), ("shut", 0), ("shut", 0)), 2, "CannotShut")
        self.assert_not_added(watch, (("dig", (0, 1)),) * 12, 11, "CannotDig")
        self.assert_not_added(watch, (("see", (0, 1, 1)),) * 13, 12, "InvalidFacts")
        # The form of all deeds comes before any of them.
        self.assert_not_added(watch, (("see", None), ("look", 1)), -1, None)

    def test_values_of_every_kind_in_deeds(self):
        watch = Watch(BRIDGE)
        for value in values_of_every_kind() + long_values() + [nested(96, ())]:
            for word, reason in (("see", "InvalidFacts"), ("shut", "CannotShut"), ("dig", "CannotDig")):
                if type(told_after(BRIDGE, (), (word, value))) is not tuple:
                    self.assert_not_added(watch, (("see", (0, 1, 1)), (word, value)), 1, reason)

    def test_one_part_changed(self):
        deeds = (("see", (1, 2, 1)), ("shut", 4), ("dig", (1, 3)))
        for value in variants(deeds, ODD[:12]):
            watch, state, index = Watch(BRIDGE), (BRIDGE, ()), None
            form = type(value) is tuple and len(value) <= 60 and all(
                told.is_tuple(deed, 2) and type(deed[0]) is str and deed[0] in ("see", "shut", "dig") for deed in value)
            for k, deed in enumerate(value if form else ()):
                state = told_after(*state, deed)
                if type(state) is not tuple:
                    index = k
                    break
            if not form:
                self.assert_not_added(watch, value, -1, None)
            elif index is not None:
                self.assert_not_added(watch, value, index, state.__name__)
            else:
                watch += value
                self.assertEqual((watch.mine(), watch.facts(), watch.deeds()), state + (value,))


class Twins(Watches):
    def test_later_deeds_have_no_effect_on_the_other(self):
        watch = Watch(BRIDGE)
        watch.see((1, 2, 1))
        twin = watch.twin()
        self.assertIsNot(twin, watch)
        self.assertIs(type(twin), Watch)
        self.assertTrue(twin == watch and watch == twin and not watch != twin)
        before = everything(watch)
        self.assertEqual(everything(twin), before)
        twin.shut(4)
        twin += (("see", (0, 1, 1)),)
        self.assertEqual(everything(watch), before)
        self.assertNotEqual(watch, twin)
        after = everything(twin)
        watch.undo()
        watch.dig((1, 2))
        self.assertEqual(everything(twin), after)
        for _ in range(3):
            twin.undo()
        self.assertEqual(twin, Watch(BRIDGE))

    def test_twins_of_twins(self):
        watch = Watch(TWINS)
        twins = [watch]
        for k in range(4):
            twin = twins[-1].twin()
            twin.dig((0, 1))
            twins.append(twin)
        self.assertEqual([len(twin) for twin in twins], [0, 1, 2, 3, 4])
        for twin in twins:
            self.assertEqual(len(twin.mine()[1]), 3 + len(twin))
            while len(twin):
                twin.undo()
            self.assertEqual(twin, Watch(TWINS))

    def test_equality(self):
        one, two = Watch(BRIDGE), Watch(BRIDGE)
        self.assertIs(one == two, True)
        self.assertIs(one != two, False)
        one.see((1, 2, 1))
        self.assertIs(one == two, False)
        two.see((1, 2, 1))
        self.assertIs(one == two, True)
        two.undo()
        two.see((1, 2, 0))
        self.assertIs(one == two, False)
        # The same current mine and facts, but another first mine or other deeds.
        self.assertIs(Watch(BRIDGE) == Watch(CROSS), False)
        three = Watch(SQUARE)
        three.dig((1, 2))
        self.assertEqual((three.mine(), three.facts()), (BRIDGE, ()))
        self.assertIs(three == Watch(BRIDGE), False)
        four, five = Watch(TWINS), Watch(TWINS)
        four += (("shut", 0), ("shut", 0))
        five += (("shut", 0), ("dig", (0, 1)), ("shut", 2), ("shut", 0))
        self.assertEqual((four.mine(), four.facts()), (five.mine(), five.facts()))
        self.assertIs(four == five, False)

    def test_other_things(self):
        watch = Watch(BRIDGE)
        for other in values_of_every_kind() + [BRIDGE, (BRIDGE, ()), [watch], watch.deeds()]:
            self.assertIs(watch == other, False)
            self.assertIs(watch != other, True)


class Histories(Watches):
    def test_answers_are_those_of_the_other_functions(self):
        kept = {True: 0, False: 0}
        refused = {}
        for mine, numbers in random_mines(902, 40):
            watch, deeds = Watch(mine), []
            for _ in range(14):
                state = told_state(mine, deeds)
                deed = drawn_deed(*state, numbers)
                after = told_after(*state, deed)
                if type(after) is tuple:
                    getattr(watch, deed[0])(deed[1])
                    deeds.append(deed)
                    if state[1] and deed[0] != "see":
                        kept[after[1] == state[1]] += 1
                else:
                    refused[after] = refused.get(after, 0) + 1
                    with self.assertRaises(after):
                        getattr(watch, deed[0])(deed[1])
                if numbers.below(8) == 0 and deeds:
                    watch.undo()
                    deeds.pop()
            self.assert_answers(watch, mine, deeds)
            for fact in drawn_facts(watch.mine(), numbers, 2):
                self.assertEqual(watch.paper_of(fact), decide(("sure", watch.mine(), watch.facts(), fact)))
        self.assertGreater(min(kept.values()), 10)
        self.assertGreater(min(refused.get(error, 0) for error in (Impossible, CannotShut, CannotDig)), 2)

    def test_more_than_a_hundred_deeds(self):
        numbers = Numbers(903)
        for mine in (BRIDGE, WHEEL, HANGING):
            watch, deeds, state = Watch(mine), [], (mine, ())
            while len(deeds) < 130:
                deed = drawn_deed(*state, numbers)
                after = told_after(*state, deed)
                if type(after) is tuple:
                    watch += (deed,)
                    deeds.append(deed)
                    state = after
                self.assertEqual((watch.mine(), watch.facts()), state)
            self.assert_answers(watch, mine, deeds)
            again = Watch(mine)
            again += tuple(deeds[:60])
            again += tuple(deeds[60:120])
            again += tuple(deeds[120:])
            self.assertEqual(again, watch)
            self.assertEqual(everything(again), everything(watch))
            for _ in range(130):
                watch.undo()
            self.assertEqual(watch, Watch(mine))
            self.assert_answers(watch, mine, ())

    def test_facts_that_stay_are_possible_in_the_new_mine(self):
        numbers = Numbers(904)
        for _ in range(60):
            watch = Watch(small_mine(numbers, 6))
            for _ in range(10):
                deed = drawn_deed(watch.mine(), watch.facts(), numbers)
                if type(told_after(watch.mine(), watch.facts(), deed)) is tuple:
                    watch += (deed,)
                    self.assertTrue(is_possible(watch.mine(), watch.facts()))

    def test_what_was_told_before_stays_as_it_was(self):
        watch = Watch(BRIDGE)
        watch.see((1, 2, 1))
        told_before = everything(watch)
        kept = copy.deepcopy(told_before)
        watch.shut(4)
        watch.dig((1, 2))
        watch.undo()
        self.assertEqual(told_before, kept)


class Amounts(Watches):
    def test_answers_for_the_current_mine(self):
        for mine, numbers in random_mines(905, 40):
            watch = Watch(mine)
            for _ in range(4):
                deed = drawn_deed(watch.mine(), watch.facts(), numbers)
                if type(told_after(watch.mine(), watch.facts(), deed)) is tuple:
                    watch += (deed,)
                before = everything(watch)
                now = watch.mine()
                self.assertEqual(watch.same_air(), same_air(now))
                w = numbers.below(len(now[1]))
                others = tuple(k for k in range(len(now[1])) if k != w and numbers.below(2))
                paper = watch.within(others=others, way=w)
                self.assertEqual(paper, decide_amount(("within", now, w, others)))
                self.assertIsNone(first_amount_fault(paper))
                if told.makes_plain(now):
                    self.assertEqual(watch.effects(), effects_of(now))
                else:
                    self.assert_refused(watch, NotPlain, {}, "effects")
                self.assertEqual(everything(watch), before)

    def test_effects_when_a_way_is_shut_and_dug(self):
        watch = Watch(BRIDGE)
        self.assert_refused(watch, NotPlain, {}, "effects")
        watch.shut(4)
        self.assertEqual(watch.effects(), ((1, 0, 1, 0), (0, 1, 0, 1), (1, 0, 1, 0), (0, 1, 0, 1)))
        watch.dig((2, 1))
        self.assert_refused(watch, NotPlain, {}, "effects")
        watch.undo()
        self.assertEqual(watch.effects()[0], (1, 0, 1, 0))

    def test_claims_that_are_not_valid(self):
        watch = Watch(BRIDGE)
        for value in values_of_every_kind() + long_values():
            for way, others in ((value, ()), (0, value), (0, (1, value)), (value, value)):
                if not is_amount_claim(("within", BRIDGE, way, others)):
                    self.assert_refused(watch, InvalidClaim, {}, "within", way, others)
        for way, others in ((0, (0,)), (5, ()), (0, (5,)), (0, (2, 1)), (True, ()), (0, (True, 2)), (0, [1])):
            self.assert_refused(watch, InvalidClaim, {}, "within", way, others)
        watch.shut(4)
        self.assert_refused(watch, InvalidClaim, {}, "within", 4, ())
        self.assertEqual(watch.within(0, (2,))[0], "shown")


class Times(Watches):
    def test_the_largest_mines_take_no_long(self):
        numbers = Numbers(906)
        began = time.perf_counter()
        for mine in (FULL, CROWDED, LADDER, WHEEL, LINE, BEHIND, ROW) + tuple(full_mine(numbers) for _ in range(10)):
            watch = Watch(mine)
            while len(watch.facts()) < 12:
                fact = drawn_facts(mine, numbers, 1)[0]
                if is_possible(mine, watch.facts() + (fact,)):
                    watch.see(fact)
            everything(watch)
            watch.paper_of((mine[2], mine[3], 1))
            watch.twin().undo()
            for way in range(len(mine[1])):
                try:
                    watch.shut(way)
                except CannotShut:
                    continue
                watch.undo()
        self.assertLess(time.perf_counter() - began, 8)


if __name__ == "__main__":
    unittest.main()
