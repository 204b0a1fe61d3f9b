"""The interface of cornerplane/errors.py."""

import inspect
import unittest

from cornerplane import errors

ARGUMENTS = {
    "OffBoard": ["corner"],
    "NotAPath": ["index"],
    "NotOnPath": ["corner"],
    "NotALine": ["index"],
    "NoStroke": ["number"],
    "NoReading": ["number"],
    "Conflict": ["first", "second", "certificate"],
    "Blocked": ["name", "certificate"],
    "NotClosedSet": ["index", "certificate"],
    "NotEven": ["certificate"],
    "Ring": ["half", "certificate"],
    "BadTable": ["half"],
    "BrokenTable": ["half", "start", "end"],
    "BadRanking": ["half"],
    "BadText": ["line_number"],
    "TooLarge": [],
    "TooFar": [],
    "NothingToUndo": [],
    "NothingToRedo": [],
    "NoChange": [],
    "OpenSteps": ["corner"],
    "OpenLoop": ["index"],
    "NameTaken": ["name"],
    "UnknownName": ["name"],
    "Overlap": ["cell"],
    "Pinned": ["name"],
}


class ErrorsTest(unittest.TestCase):
    def test_the_base_class_is_a_value_error(self):
        self.assertEqual(errors.PlaneError.__bases__, (ValueError,))

    def test_there_are_exactly_the_26_classes(self):
        classes = inspect.getmembers(errors, inspect.isclass)
        names = {name for name, _ in classes}
        self.assertEqual(len(ARGUMENTS), 26)
        self.assertEqual(names, set(ARGUMENTS) | {"PlaneError"})

    def test_each_class_is_directly_under_the_base_and_defined_there(self):
        for name in ARGUMENTS:
            error_class = getattr(errors, name)
            self.assertEqual(error_class.__bases__, (errors.PlaneError,), name)
            self.assertEqual(error_class.__module__, "cornerplane.errors", name)

    def test_arguments_by_position_become_attributes(self):
        for name, arguments in ARGUMENTS.items():
            values = [("value", at) for at in range(len(arguments))]
            error = getattr(errors, name)(*values)
            for argument, value in zip(arguments, values):
                self.assertEqual(getattr(error, argument), value, name)

    def test_each_error_can_be_raised_and_shown(self):
        for name, arguments in ARGUMENTS.items():
            values = [(at, at + 1) for at in range(len(arguments))]
            with self.assertRaises(errors.PlaneError) as caught:
                raise getattr(errors, name)(*values)
            self.assertIsInstance(str(caught.exception), str)

    def test_a_wrong_number_of_arguments_is_refused(self):
        for name, arguments in ARGUMENTS.items():
            if arguments:
                with self.assertRaises(TypeError):
                    getattr(errors, name)(*[0] * (len(arguments) + 1))


if __name__ == "__main__":
    unittest.main()
