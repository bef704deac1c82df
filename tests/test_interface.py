"""The interface: names, files, parameters, and the document's examples."""

import copy
import doctest
import importlib
import inspect
import unittest

from tests.samples import BRIDGE, JOINED

FUNCTIONS = {
    "windways.mines": {
        "require_mine": ["value"],
        "is_joined": ["mine"],
        "ways_at": ["mine", "x"],
        "far_end": ["mine", "w", "x"],
    },
    "windways.air": {
        "levels_for": ["mine", "widths"],
        "pressures_of": ["mine", "widths"],
        "air_of": ["mine", "widths"],
        "total_air": ["mine", "widths"],
        "is_state": ["mine", "widths", "levels"],
        "picture_of": ["mine", "levels"],
    },
    "windways.balance": {
        "is_balanced": ["mine", "levels"],
        "widths_for": ["mine", "levels"],
    },
}

# As they stand in the document.
EXAMPLES = {
    "stage 1": """
    >>> from windways.mines import far_end, is_joined, ways_at
    >>> mine = (4, ((0, 1), (0, 2), (1, 3), (2, 3), (1, 2)), 0, 3)
    >>> (is_joined(mine), ways_at(mine, 1), far_end(mine, 4, 1))
    (True, (0, 2, 4), 2)
    """,
    "stage 2": """
    >>> from windways.air import air_of, levels_for, picture_of, total_air
    >>> mine = (4, ((0, 1), (0, 2), (1, 3), (2, 3), (1, 2)), 0, 3)
    >>> widths = (1, 1, 1, 1, 5)
    >>> (levels_for(mine, widths), air_of(mine, widths), total_air(mine, widths), picture_of(mine, (2, 1, 1, 0)))
    ((2, 1, 1, 0), ((1, 2), (1, 2), (1, 2), (1, 2), (0, 1)), (1, 1), (1, 1, 1, 1, 0))
    """,
    "stage 3": """
    >>> from windways.balance import is_balanced
    >>> mine = (4, ((0, 1), (0, 2), (1, 3), (2, 3), (1, 2)), 0, 3)
    >>> (is_balanced(mine, (3, 2, 1, 0)), is_balanced(mine, (3, 3, 1, 0)), is_balanced(mine, (0, 1, 2, 3)))
    (True, False, False)
    """,
}


def function_of(module, name):
    return getattr(importlib.import_module(module), name)


class Names(unittest.TestCase):
    def test_functions_are_defined_where_the_interface_lists_them(self):
        for module, functions in FUNCTIONS.items():
            for name in functions:
                function = function_of(module, name)
                self.assertTrue(inspect.isfunction(function), name)
                self.assertEqual((function.__module__, function.__name__), (module, name))

    def test_parameters_are_those_of_the_interface(self):
        for module, functions in FUNCTIONS.items():
            for name, told in functions.items():
                parameters = inspect.signature(function_of(module, name)).parameters.values()
                self.assertEqual([parameter.name for parameter in parameters], told, name)
                for parameter in parameters:
                    self.assertIs(parameter.kind, inspect.Parameter.POSITIONAL_OR_KEYWORD, name)
                    self.assertIs(parameter.default, inspect.Parameter.empty, name)

    def test_the_examples_answer_as_they_stand(self):
        for stage, text in EXAMPLES.items():
            test = doctest.DocTestParser().get_doctest(text, {}, stage, None, 0)
            results = doctest.DocTestRunner(verbose=False).run(test)
            self.assertEqual((results.failed, results.attempted > 2), (0, True), stage)


class Arguments(unittest.TestCase):
    def test_nothing_handed_in_is_changed(self):
        for mine in JOINED:
            widths = tuple(range(1, len(mine[1]) + 1))
            levels = function_of("windways.air", "levels_for")(mine, widths)
            values = {"mine": mine, "widths": widths, "levels": levels, "value": mine, "w": 0, "x": mine[1][0][0]}
            before = copy.deepcopy(values)
            for module, functions in FUNCTIONS.items():
                for name, told in functions.items():
                    if name != "widths_for" or max(levels) <= 10000:
                        function_of(module, name)(**{key: values[key] for key in reversed(told)})
                        self.assertEqual(values, before, name)

    def test_answers_are_the_same_by_position_and_by_name(self):
        values = {"mine": BRIDGE, "widths": (1, 2, 3, 4, 5), "levels": (3, 2, 1, 0), "value": BRIDGE, "w": 2, "x": 3}
        for module, functions in FUNCTIONS.items():
            for name, told in functions.items():
                function = function_of(module, name)
                by_position = function(*[values[key] for key in told])
                by_name = function(**{key: values[key] for key in reversed(told)})
                self.assertEqual(by_position, by_name, name)


if __name__ == "__main__":
    unittest.main()
