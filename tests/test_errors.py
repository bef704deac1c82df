"""windways.errors: the classes, what they derive from and what they keep."""

import unittest

from windways import errors

VALUE_ERRORS = {
    "InvalidMine": ("index",),
    "InvalidFacts": ("index",),
    "InvalidDoors": ("index",),
    "InvalidClaim": (),
    "ParseError": ("line",),
}
RUNTIME_ERRORS = {
    "NotJoined": (),
    "Impossible": (),
    "CannotShut": ("way",),
    "CannotDig": ("pair",),
    "Refused": ("index", "reason"),
    "NothingDone": (),
    "NotPlain": (),
}
ALL_ERRORS = {**VALUE_ERRORS, **RUNTIME_ERRORS}


class ErrorClasses(unittest.TestCase):
    def test_value_errors_derive_from_value_error_alone(self):
        for name in VALUE_ERRORS:
            self.assertEqual(getattr(errors, name).__bases__, (ValueError,), name)

    def test_runtime_errors_derive_from_runtime_error_alone(self):
        for name in RUNTIME_ERRORS:
            self.assertEqual(getattr(errors, name).__bases__, (RuntimeError,), name)

    def test_classes_are_defined_in_the_module(self):
        for name in ALL_ERRORS:
            self.assertEqual(getattr(errors, name).__module__, "windways.errors", name)
            self.assertEqual(getattr(errors, name).__name__, name)

    def test_none_is_a_subclass_of_another_one(self):
        classes = [getattr(errors, name) for name in ALL_ERRORS]
        for one in classes:
            for two in classes:
                self.assertEqual(issubclass(one, two), one is two, (one, two))

    def test_arguments_by_position_are_kept(self):
        for name, attributes in ALL_ERRORS.items():
            values = [("kept", k) for k in range(len(attributes))]
            error = getattr(errors, name)(*values)
            self.assertEqual([getattr(error, a) for a in attributes], values, name)

    def test_arguments_by_name_are_kept(self):
        for name, attributes in ALL_ERRORS.items():
            values = {a: ("kept", k) for k, a in reversed(list(enumerate(attributes)))}
            error = getattr(errors, name)(**values)
            for attribute, value in values.items():
                self.assertIs(getattr(error, attribute), value, name)

    def test_missing_arguments_are_not_filled_in(self):
        for name, attributes in ALL_ERRORS.items():
            if attributes:
                with self.assertRaises(TypeError):
                    getattr(errors, name)()

    def test_none_and_zero_are_kept_as_they_are(self):
        self.assertIsNone(errors.InvalidMine(None).index)
        self.assertEqual(errors.InvalidMine(0).index, 0)
        self.assertEqual(errors.ParseError(0).line, 0)
        refused = errors.Refused(-1, None)
        self.assertEqual((refused.index, refused.reason), (-1, None))

    def test_raised_errors_are_caught_by_their_names(self):
        for name, attributes in ALL_ERRORS.items():
            error = getattr(errors, name)
            with self.assertRaises(error):
                raise error(*attributes)


if __name__ == "__main__":
    unittest.main()
