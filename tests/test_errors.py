"""coverstore.errors: the classes, their attributes and their bases."""

import inspect
import unittest

from coverstore import errors

ATTRIBUTES = {
    errors.CoverError: {
        "InvalidBits": "value", "InvalidValue": "value", "InvalidRange": "value", "InvalidBox": "position",
        "InvalidPlace": "value", "InvalidCount": "value", "InvalidName": "value", "InvalidColumns": "value",
        "InvalidOrder": "position", "InvalidKey": "value", "InvalidPayload": "value", "InvalidWrite": "position",
        "InvalidQuery": "problem position", "InvalidText": "value", "InvalidPoint": "value",
        "InvalidPaper": "position", "InvalidLimit": "value", "InvalidGroups": "problem", "InvalidPage": "value",
        "InvalidMessage": "value", "InvalidCommand": "value",
    },
    LookupError: {
        "UnknownTable": "value", "UnknownVersion": "value", "TooOld": "least", "UnknownName": "value",
        "UnknownTransaction": "value",
    },
    RuntimeError: {
        "NameTaken": "name", "KeyTaken": "table key", "NoSuchRow": "table key", "NotClear": "key", "Unlike": "",
        "NoHalf": "place", "NotJoined": "place", "NotAPoint": "", "WrongColumns": "position", "Holds": "position",
        "WrongLine": "line", "NotAnswer": "point", "IsAnswer": "point", "NotEmpty": "point", "Ended": "",
        "Changed": "act item", "Violated": "name point", "Held": "earliest", "Crashed": "", "DiskInUse": "",
        "NoStore": "", "Needs": "request",
    },
    ArithmeticError: {"TooMany": "kind limit", "TooLarge": "count"},
}


def listed():
    """All (class, base, names of its attributes)."""
    return [
        (getattr(errors, name), base, attributes.split())
        for base, classes in ATTRIBUTES.items()
        for name, attributes in classes.items()
    ]


class ErrorsTest(unittest.TestCase):

    def test_base_of_all_judging_errors(self):
        self.assertEqual((ValueError,), errors.CoverError.__bases__)

    def test_by_position(self):
        for kind, _, names in listed():
            values = [object() for _ in names]
            error = kind(*values)
            for name, value in zip(names, values):
                self.assertIs(value, getattr(error, name), kind)

    def test_by_name(self):
        for kind, _, names in listed():
            values = {name: object() for name in names}
            self.assertEqual(values, vars(kind(**values)), kind)

    def test_no_other_number_of_arguments(self):
        for kind, _, names in listed():
            if names:
                self.assertRaises(TypeError, kind, *(0 for _ in names[1:]))
                self.assertRaises(TypeError, kind, 0, *(0 for _ in names))
                self.assertEqual(names, list(inspect.signature(kind).parameters))

    def test_direct_bases(self):
        for kind, base, _ in listed():
            self.assertEqual((base,), kind.__bases__, kind)
            self.assertEqual("coverstore.errors", kind.__module__)

    def test_none_is_another_one(self):
        kinds = [kind for kind, _, _ in listed()]
        for one in kinds:
            self.assertEqual([one], [other for other in kinds if issubclass(one, other)])

    def test_only_these(self):
        names = [name for classes in ATTRIBUTES.values() for name in classes] + ["CoverError"]
        found = [name for name, value in vars(errors).items() if isinstance(value, type)]
        self.assertEqual(sorted(names), sorted(found))
        self.assertEqual(50 + 1, len(found))

    def test_raised_and_caught(self):
        for kind, base, names in listed():
            values = [7 for _ in names]
            with self.assertRaises(base) as caught:
                raise kind(*values)
            self.assertIs(kind, type(caught.exception))

    def test_two_errors_are_not_equal(self):
        self.assertNotEqual(errors.InvalidBits(1), errors.InvalidBits(1))
        self.assertNotEqual(errors.Unlike(), errors.Unlike())


if __name__ == "__main__":
    unittest.main()
