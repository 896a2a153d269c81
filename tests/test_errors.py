"""[0.4]: the error classes and their attributes."""

import inspect
import unittest

from eacharm import errors

PARAMETERS = {
    "BadText": ("place", "what"),
    "NoNode": ("number",),
    "NoPlace": ("number",),
    "BadSchemeText": (),
    "NotTyped": ("setting", "kept"),
    "NotRefused": ("lot",),
    "TooLarge": ("size",),
    "Undecided": ("switch",),
    "BadPiece": ("number",),
    "TooManyEdits": ("most",),
    "NoEdit": ("switch",),
    "NotOn": ("switch",),
    "NotOff": ("switch",),
    "NoDeed": (),
    "UnlikeBase": (),
    "BadConditionText": (),
    "BadReport": ("line",),
}
VALUES = [(15, "form"), ((), (1, 2)), (("A", "B"), ()), (0, 0), ("e1", "e2")]


class Errors(unittest.TestCase):
    def test_base(self):
        self.assertEqual(errors.ArmError.__bases__, (ValueError,))
        self.assertIsInstance(errors.ArmError(), ValueError)

    def test_bases(self):
        for name in PARAMETERS:
            self.assertEqual(getattr(errors, name).__bases__, (errors.ArmError,), name)

    def test_no_other_classes(self):
        classes = {n for n, c in vars(errors).items() if inspect.isclass(c)}
        self.assertEqual(classes, {"ArmError", *PARAMETERS})

    def test_attributes_by_place(self):
        for name, parameters in PARAMETERS.items():
            for values in VALUES:
                values = values[:len(parameters)]
                error = getattr(errors, name)(*values)
                for parameter, value in zip(parameters, values):
                    self.assertEqual(getattr(error, parameter), value, name)
                self.assertIsInstance(str(error), str)

    def test_attributes_by_name(self):
        for name, parameters in PARAMETERS.items():
            told = dict(zip(parameters, ("one", "two")))
            error = getattr(errors, name)(**told)
            self.assertEqual({key: vars(error)[key] for key in told}, told)

    def test_wrong_counts(self):
        for name, parameters in PARAMETERS.items():
            if parameters:
                with self.assertRaises(TypeError):
                    getattr(errors, name)()

    def test_caught_as_arm_error(self):
        with self.assertRaises(errors.ArmError):
            raise errors.NoDeed()
        with self.assertRaises(ValueError):
            raise errors.BadText(15, "form")


if __name__ == "__main__":
    unittest.main()
