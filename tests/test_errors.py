"""[0.7] The errors of the package."""

import unittest

from untoldgaps import errors
from untoldgaps.errors import GapError

ERRORS = {
    "BadRatio": (),
    "BadRow": ("index", "what"),
    "BadGaps": ("what",),
    "BadMoment": ("moment",),
    "NoBall": ("ball",),
    "NoMirror": (),
    "NoHurry": (),
    "Wide": (),
    "BadText": ("index", "what"),
    "NoPair": ("pair",),
    "BadWord": ("index", "what"),
    "BadTable": ("what",),
    "Long": ("count",),
    "NotComing": ("index",),
    "AtClash": ("moment",),
    "TwoGaps": (),
    "NotClosed": ("index",),
    "BadStrict": ("index", "what"),
    "NoInner": (),
    "TooMany": ("most",),
    "BadClaim": ("what",),
    "NotSettled": ("kind",),
    "Unlike": (),
    "NoMeeting": ("meeting",),
    "SameMeeting": ("meeting",),
    "BadStanding": ("what",),
    "NoWall": (),
    "NoLot": ("lot",),
    "BadFact": ("what",),
    "NothingFits": (),
    "NotTrue": ("fact",),
    "NotHeard": ("fact",),
    "BadMoments": ("what",),
    "BadChange": ("index", "what"),
    "BadWish": ("index", "what"),
    "NoNumber": ("number",),
}
# What a call may pass: also things that cannot be written out, such as a number of 5000 digits.
VALUES = {
    "index": 3,
    "what": "weight",
    "moment": -(10**5000),
    "ball": 10**5000,
    "pair": [1, "x"],
    "count": 800,
    "most": 400,
    "kind": "first",
    "meeting": ("wall", 0),
    "lot": None,
    "fact": ("heard", (1, 2)),
    "number": -(10**5000),
}


def raising(kind, values):
    raise kind(*values)


class ErrorsTest(unittest.TestCase):
    def test_all_are_there_and_no_others(self):
        kinds = [name for name, value in vars(errors).items() if isinstance(value, type)]
        self.assertEqual(sorted(kinds), sorted(["GapError", *ERRORS]))

    def test_bases(self):
        self.assertEqual(GapError.__bases__, (ValueError,))
        for name in ERRORS:
            self.assertEqual(getattr(errors, name).__bases__, (GapError,), name)

    def test_attributes_by_place_and_by_name(self):
        for name, attributes in ERRORS.items():
            kind = getattr(errors, name)
            values = {attribute: VALUES[attribute] for attribute in attributes}
            self.assertEqual(vars(kind(*values.values())), values, name)
            self.assertEqual(vars(kind(**values)), values, name)
            for attribute, value in values.items():
                self.assertIs(getattr(kind(**values), attribute), value, name)

    def test_as_many_arguments_as_attributes(self):
        for name, attributes in ERRORS.items():
            kind = getattr(errors, name)
            with self.assertRaises(TypeError):
                kind(*([1] * (len(attributes) + 1)))
            if attributes:
                with self.assertRaises(TypeError):
                    kind(*([1] * (len(attributes) - 1)))

    def test_caught_by_its_bases_and_by_no_other(self):
        for name, attributes in ERRORS.items():
            kind = getattr(errors, name)
            values = [VALUES[attribute] for attribute in attributes]
            for base in (kind, GapError, ValueError):
                with self.assertRaises(base):
                    raising(kind, values)
            for other in ERRORS:
                if other != name:
                    self.assertFalse(issubclass(kind, getattr(errors, other)), (name, other))

    def test_messages_are_text(self):
        for name, attributes in ERRORS.items():
            told = getattr(errors, name)(*[VALUES[attribute] for attribute in attributes])
            self.assertTrue(str(told), name)


if __name__ == "__main__":
    unittest.main()
