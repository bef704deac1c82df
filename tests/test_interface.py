"""The interface: names, files, parameters, and the document's examples."""

import copy
import doctest
import importlib
import inspect
import unittest

from tests.samples import JOINED, exchanged
from windways.air import levels_for
from windways.errors import NotPlain, ParseError
from windways.routes import routes_of

FUNCTIONS = {
    "windways.mines": {
        "require_mine": ["value"],
        "is_joined": ["mine"],
        "ways_at": ["mine", "x"],
        "far_end": ["mine", "w", "x"],
    },
    "windways.air": {
        "levels_for": ["mine", "widths"],
        "pressures_of": ["mine", "widths"],
        "air_of": ["mine", "widths"],
        "total_air": ["mine", "widths"],
        "is_state": ["mine", "widths", "levels"],
        "picture_of": ["mine", "levels"],
    },
    "windways.balance": {
        "is_balanced": ["mine", "levels"],
        "widths_for": ["mine", "levels"],
    },
    "windways.facts": {
        "require_facts": ["mine", "value"],
        "opposite_of": ["fact"],
        "facts_fit": ["facts", "levels"],
        "ring_of": ["mine", "facts"],
        "is_ring": ["mine", "facts", "ring"],
        "stuck_places": ["mine", "facts"],
    },
    "windways.cases": {
        "is_tree": ["mine", "facts", "tree"],
        "tree_for": ["mine", "facts"],
        "state_for": ["mine", "facts"],
        "is_possible": ["mine", "facts"],
    },
    "windways.sures": {
        "is_sure": ["mine", "facts", "fact"],
        "sign_of": ["mine", "facts", "x", "y"],
        "known_signs": ["mine", "facts"],
        "pictures_of": ["mine", "facts"],
    },
    "windways.routes": {
        "routes_of": ["mine"],
        "side_in": ["mine", "route", "w"],
        "sides_of": ["mine", "w"],
        "turning_ways": ["mine"],
    },
    "windways.plain": {
        "can_reduce": ["mine", "reductions"],
        "reductions_for": ["mine"],
        "is_plain": ["mine"],
    },
    "windways.looks": {
        "looks_needed": ["mine", "facts", "looks", "goal"],
    },
    "windways.doors": {
        "require_doors": ["mine", "value"],
        "choices_of": ["doors"],
        "with_shut": ["mine", "doors", "choice"],
        "first_choice": ["mine", "doors"],
        "undrawn_way": ["mine", "facts"],
        "are_alike": ["mine", "other"],
    },
    "windways.claims": {
        "require_claim": ["claim"],
        "decide": ["claim"],
    },
    "windways.checker": {
        "first_fault": ["certificate"],
    },
    "windways.amounts": {
        "amounts_of": ["mine", "widths", "levels"],
        "is_lock": ["mine", "w", "others", "value"],
        "lock_for": ["mine", "w", "others"],
        "is_within_others": ["mine", "w", "others"],
        "strong_state": ["mine", "route"],
        "same_air": ["mine"],
    },
    "windways.bounds": {
        "is_bound": ["mine", "weights"],
        "greatest_along": ["mine", "weights"],
        "ways_on": ["mine", "begun"],
        "is_walk": ["mine", "weights", "value"],
        "walk_for": ["mine", "weights"],
    },
    "windways.wider": {
        "effect_of": ["mine", "v", "w"],
        "effects_of": ["mine"],
    },
    "windways.texts": {
        "format_mine": ["mine"],
        "format_facts": ["facts"],
        "parse_mine": ["text"],
        "parse_facts": ["text"],
    },
    "windways.amountclaims": {
        "require_amount_claim": ["claim"],
        "decide_amount": ["claim"],
    },
    "windways.amountchecker": {
        "first_amount_fault": ["certificate"],
    },
}

# As they stand in the document.
EXAMPLES = {
    "stage 1": """
    >>> from windways.mines import far_end, is_joined, ways_at
    >>> mine = (4, ((0, 1), (0, 2), (1, 3), (2, 3), (1, 2)), 0, 3)
    >>> (is_joined(mine), ways_at(mine, 1), far_end(mine, 4, 1))
    (True, (0, 2, 4), 2)
    """,
    "stage 2": """
    >>> from windways.air import air_of, levels_for, picture_of, total_air
    >>> mine = (4, ((0, 1), (0, 2), (1, 3), (2, 3), (1, 2)), 0, 3)
    >>> widths = (1, 1, 1, 1, 5)
    >>> (levels_for(mine, widths), air_of(mine, widths), total_air(mine, widths), picture_of(mine, (2, 1, 1, 0)))
    ((2, 1, 1, 0), ((1, 2), (1, 2), (1, 2), (1, 2), (0, 1)), (1, 1), (1, 1, 1, 1, 0))
    """,
    "stage 3": """
    >>> from windways.balance import is_balanced
    >>> mine = (4, ((0, 1), (0, 2), (1, 3), (2, 3), (1, 2)), 0, 3)
    >>> (is_balanced(mine, (3, 2, 1, 0)), is_balanced(mine, (3, 3, 1, 0)), is_balanced(mine, (0, 1, 2, 3)))
    (True, False, False)
    """,
    "stage 4": """
    >>> from windways.facts import is_ring, opposite_of, ring_of, stuck_places
    >>> mine = (3, ((0, 1), (1, 2)), 0, 2)
    >>> ring = ((0, 2, 1), (2, 0, 0))
    >>> (opposite_of((0, 1, 1)), ring_of(mine, ()), is_ring(mine, ((2, 0, 0),), ring))
    ((1, 0, 0), None, True)
    >>> stuck_places(mine, ((0, 1, 1), (2, 1, 0)))
    (1,)
    """,
    "stage 5": """
    >>> from windways.cases import is_possible, is_tree
    >>> mine = (3, ((0, 1), (1, 2)), 0, 2)
    >>> facts = ((0, 1, 1), (2, 1, 0))
    >>> (is_possible(mine, facts), is_tree(mine, facts, ("stuck", 1)), is_tree(mine, (), ("stuck", 1)))
    (False, True, False)
    """,
    "stage 6": """
    >>> from windways.sures import known_signs, pictures_of
    >>> mine = (4, ((0, 1), (0, 2), (1, 3), (2, 3), (1, 2)), 0, 3)
    >>> (known_signs(mine, ()), pictures_of(mine, ()))
    ((1, 1, 1, 1, None), ((1, 1, 1, 1, -1), (1, 1, 1, 1, 0), (1, 1, 1, 1, 1)))
    """,
    "stage 7": """
    >>> from windways.routes import routes_of, turning_ways
    >>> mine = (4, ((0, 1), (0, 2), (1, 3), (2, 3), (1, 2)), 0, 3)
    >>> (routes_of(mine), turning_ways(mine))
    (((0, 2), (0, 4, 3), (1, 3), (1, 4, 2)), (4,))
    """,
    "stage 8": """
    >>> from windways.plain import can_reduce, is_plain
    >>> mine = (4, ((0, 1), (0, 2), (1, 3), (2, 3)), 0, 3)
    >>> (is_plain(mine), can_reduce(mine, (("behind", 1), ("behind", 2), ("beside", 4, 5))))
    (True, None)
    >>> can_reduce(mine, (("beside", 0, 1),))
    0
    """,
    "stage 9": """
    >>> from windways.looks import looks_needed
    >>> mine = (4, ((0, 1), (0, 2), (1, 3), (2, 3), (1, 2)), 0, 3)
    >>> (looks_needed(mine, (), ((1, 2),), (1, 2)), looks_needed(mine, (), ((0, 1),), (1, 2)))
    (1, None)
    >>> looks_needed(mine, (), (), (0, 3))
    0
    """,
    "stage 10": """
    >>> from windways.doors import choices_of, first_choice, undrawn_way
    >>> mine = (4, ((0, 1), (0, 2), (1, 3), (2, 3), (1, 2)), 0, 3)
    >>> doors = ((4, 3), (0, 2))
    >>> (list(choices_of(doors)), first_choice(mine, doors), undrawn_way((3, ((0, 1), (1, 2)), 0, 2), ((2, 1, 0),)))
    ([(), (1,), (0,), (0, 1)], (1,), None)
    """,
    "stage 11": """
    >>> from windways.checker import first_fault
    >>> from windways.claims import decide
    >>> mine = (4, ((0, 1), (0, 2), (1, 3), (2, 3), (1, 2)), 0, 3)
    >>> told = decide(("way", mine, 4, -1))
    >>> (told[0], told[2], first_fault(told), first_fault(("broken",) + told[1:]))
    ('shown', (1, 4, 2), None, ('paper',))
    """,
    "stage 12": """
    >>> from windways.watch import Watch
    >>> watch = Watch((4, ((0, 1), (0, 2), (1, 3), (2, 3), (1, 2)), 0, 3))
    >>> watch += (("see", (1, 2, 1)),)
    >>> told = watch.signs()
    >>> watch.shut(4)
    >>> (told, watch.facts(), watch.sign(1, 2), watch.turning(), len(watch))
    ((1, 1, 1, 1, 1), (), None, (), 2)
    """,
    "stage 13": """
    >>> from windways.texts import format_facts, format_mine
    >>> mine = (3, ((0, 1), (1, 2)), 0, 2)
    >>> (format_mine(mine), format_facts(((0, 2, 1), (1, 2, 0))))
    ('places 3\\ninlet 0\\noutlet 2\\nway 0 1\\nway 1 2\\n', '0 above 2\\n1 from 2\\n')
    """,
    "stage 14": """
    >>> from windways.amounts import is_lock, is_within_others, same_air
    >>> mine = (4, ((0, 1), (0, 2), (1, 2), (1, 3), (2, 3)), 0, 3)
    >>> (is_within_others(mine, 2, (0, 1)), is_within_others(mine, 2, (0,)), is_lock(mine, 2, (0, 1), (3, (1, 2))))
    (True, False, True)
    >>> same_air((3, ((0, 1), (1, 2), (0, 2)), 0, 2))
    ((0, 1), (2,))
    """,
    "stage 15": """
    >>> from windways.bounds import greatest_along, is_bound, walk_for, ways_on
    >>> mine = (4, ((0, 1), (0, 2), (1, 2), (1, 3), (2, 3)), 0, 3)
    >>> (is_bound(mine, (-1, -1, 1, 0, 0)), greatest_along(mine, (0, 0, 1, 0, 0)), ways_on(mine, (0,)))
    (True, 1, (2, 3))
    >>> print(walk_for((2, ((0, 1),), 0, 1), (1,)))
    None
    """,
    "stage 16": """
    >>> from windways.wider import effect_of, effects_of
    >>> mine = (4, ((0, 1), (1, 2), (1, 2), (2, 3)), 0, 3)
    >>> (effect_of(mine, 1, 2), effects_of(mine))
    (-1, ((1, 1, 1, 1), (1, 1, -1, 1), (1, -1, 1, 1), (1, 1, 1, 1)))
    """,
    "stage 17": """
    >>> from windways.amountchecker import first_amount_fault
    >>> from windways.amountclaims import decide_amount
    >>> claim = ("within", (4, ((0, 1), (0, 2), (1, 2), (1, 3), (2, 3)), 0, 3), 2, (0, 1))
    >>> told = decide_amount(claim)
    >>> (told[0], first_amount_fault(told), first_amount_fault(("broken", claim, ((1, 1, 1, 1, 1), (0, 0, 0, 0)))))
    ('shown', None, ('state',))
    """,
}


def function_of(module, name):
    return getattr(importlib.import_module(module), name)


class Names(unittest.TestCase):
    def test_functions_are_defined_where_the_interface_lists_them(self):
        for module, functions in FUNCTIONS.items():
            for name in functions:
                function = function_of(module, name)
                self.assertTrue(inspect.isfunction(function), name)
                self.assertEqual((function.__module__, function.__name__), (module, name))

    def test_parameters_are_those_of_the_interface(self):
        for module, functions in FUNCTIONS.items():
            for name, told in functions.items():
                parameters = inspect.signature(function_of(module, name)).parameters.values()
                self.assertEqual([parameter.name for parameter in parameters], told, name)
                for parameter in parameters:
                    self.assertIs(parameter.kind, inspect.Parameter.POSITIONAL_OR_KEYWORD, name)
                    self.assertIs(parameter.default, inspect.Parameter.empty, name)

    def test_the_examples_answer_as_they_stand(self):
        for stage, text in EXAMPLES.items():
            test = doctest.DocTestParser().get_doctest(text, {}, stage, None, 0)
            results = doctest.DocTestRunner(verbose=False).run(test)
            self.assertEqual((results.failed, results.attempted > 2), (0, True), stage)


def arguments_for(mine):
    """A value for each parameter of the interface, for the mine."""
    count = len(mine[1])
    widths = tuple(range(1, count + 1))
    first, second = mine[1][0]
    facts = ((first, second, 0), (second, first, 1))
    return {
        "mine": mine,
        "widths": widths,
        "levels": levels_for(mine, widths),
        "w": 0,
        "x": first,
        "y": second,
        "facts": facts[:1],
        "fact": facts[1],
        "ring": facts,
        "tree": ("case", first, second, ("ring", facts), ("stuck", first)),
        "route": routes_of(mine)[0],
        "reductions": (("beside", 0, count - 1), ("hung", first, (second,)), ("behind", second)),
        "looks": ((first, second), (second, first)),
        "goal": (second, first),
        "doors": ((0, 7),),
        "choice": (0,),
        "other": exchanged(mine),
        "claim": ("sure", mine, facts[:1], facts[1]),
        "certificate": ("shown", ("can", mine, facts), [widths, {"levels": 0}]),
        "others": tuple(range(1, count)),
        "lock": (second, tuple(x for x in (first,) if x not in mine[2:])),
        "weights": (1,) + (-1,) * (count - 1),
        "begun": routes_of(mine)[0][:1],
        "walk": ("on", [("low", [0, {"a": 1}])]),
        "v": count - 1,
        "text": "places 4\ninlet 0\nway 0 1\n",
        "amount claim": ("bound", mine, (-1,) * count),
        "amount certificate": ("shown", ("bound", mine, (1,) * count), ("on", [{"low": ()}])),
    }


# What is passed for a parameter that means different things in different functions.
VALUES = {
    ("require_mine", "value"): "mine",
    ("require_facts", "value"): "facts",
    ("require_doors", "value"): "doors",
    ("is_lock", "value"): "lock",
    ("is_walk", "value"): "walk",
    ("require_amount_claim", "claim"): "amount claim",
    ("decide_amount", "claim"): "amount claim",
    ("first_amount_fault", "certificate"): "amount certificate",
}


def answer_of(module, name, parameters, values, by_name):
    """What a function returns for these values, passed by position or by name, or the class of the error."""
    chosen = {key: values[VALUES.get((name, key), key)] for key in parameters}
    function = function_of(module, name)
    try:
        answer = function(**dict(reversed(chosen.items()))) if by_name else function(*chosen.values())
    except NotPlain:
        return NotPlain
    except ParseError as wrong:
        return wrong.line
    return list(answer) if inspect.isgenerator(answer) else answer


class Arguments(unittest.TestCase):
    def test_answers_are_the_same_by_position_and_by_name_and_nothing_is_changed(self):
        for mine in JOINED:
            values = arguments_for(mine)
            before = copy.deepcopy(values)
            for module, functions in FUNCTIONS.items():
                for name, told in functions.items():
                    if name != "widths_for" or max(values["levels"]) <= 10000:
                        by_position = answer_of(module, name, told, values, False)
                        self.assertEqual(answer_of(module, name, told, values, True), by_position, name)
                        self.assertEqual(values, before, name)


if __name__ == "__main__":
    unittest.main()
