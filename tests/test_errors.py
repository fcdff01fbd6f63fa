"""The errors of the interface."""

import unittest

from soleinstances import errors

ERRORS = {
    "InvalidName": ["value"],
    "InvalidTerm": ["value"],
    "InvalidHead": ["value"],
    "NoPart": ["number"],
    "InvalidInstance": ["number"],
    "InvalidUse": ["number"],
    "InvalidOwned": ["value"],
    "NameTaken": ["name"],
    "InvalidTold": ["number"],
    "NotSeen": ["name"],
    "WrongPlaces": ["name"],
    "UnknownName": ["name"],
    "NoInstance": ["number"],
    "InvalidBook": ["part"],
    "UnlikeBooks": [],
    "NotOwner": ["task"],
    "Meets": ["package", "number"],
    "Refused": ["package", "number", "reason"],
    "InvalidQuestion": ["value"],
    "TooLarge": ["amount"],
    "Clash": ["question", "found"],
    "InvalidProgram": ["number"],
    "InvalidDepth": ["value"],
    "TooMany": ["limit"],
    "InvalidPlaces": ["value"],
    "Undecided": ["part"],
    "NothingToUndo": [],
    "DeedFailed": ["number", "reason"],
    "InvalidText": ["line"],
    "BadCommand": ["line", "reason"],
}


class ErrorsTest(unittest.TestCase):

    def test_all_are_there_and_no_others(self):
        found = [name for name, value in vars(errors).items() if isinstance(value, type)]
        self.assertEqual(sorted(found), sorted([*ERRORS, "SoleError"]))

    def test_base_class(self):
        self.assertEqual(errors.SoleError.__bases__, (ValueError,))
        for name in ERRORS:
            self.assertEqual(getattr(errors, name).__bases__, (errors.SoleError,), name)

    def test_made_by_position(self):
        for name, parts in ERRORS.items():
            values = [object() for _ in parts]
            error = getattr(errors, name)(*values)
            self.assertEqual(vars(error), dict(zip(parts, values)), name)

    def test_made_by_name(self):
        for name, parts in ERRORS.items():
            for values in [[None] * 3, [0] * 3, ["a", ["b"], ("c", 1)]]:
                told = dict(zip(parts, values))
                error = getattr(errors, name)(**told)
                self.assertEqual(vars(error), told, name)

    def test_arguments_left_out(self):
        for name, parts in ERRORS.items():
            if parts:
                with self.assertRaises(TypeError, msg=name):
                    getattr(errors, name)(*parts[1:])

    def test_raised_and_caught(self):
        for name, parts in ERRORS.items():
            with self.assertRaises(errors.SoleError, msg=name):
                raise getattr(errors, name)(*parts)

    def test_an_error_within_another_one(self):
        reason = errors.NotOwner("show")
        error = errors.Refused("more", 0, reason)
        self.assertIs(error.reason, reason)
        self.assertEqual((error.package, error.number, error.reason.task), ("more", 0, "show"))


if __name__ == "__main__":
    unittest.main()
