"""Point 2 and the interface's "flyloft/errors.py": the refusals and their fields."""

import unittest

from flyloft import errors

FIELDS = {
    "NoRig": ("row",),
    "NoName": ("name",),
    "Unbalanced": ("bar", "why", "lacks"),
    "TooHeavy": ("bar", "what"),
    "Unheld": ("bar", "over"),
    "Misdeed": ("number", "why"),
    "Out": ("bar",),
    "Meets": ("low", "high"),
    "TooFar": ("bar", "lacks"),
    "TooFew": ("lacks",),
    "Braked": ("bar",),
    "Loose": ("bar",),
    "Leaning": ("bar", "over"),
    "Taken": ("piece", "bar"),
    "NotThere": ("bar", "piece"),
    "NoRoom": ("bar",),
    "NoPlate": ("bar",),
    "NoCue": ("row",),
    "NoMore": (),
    "NoRow": (),
    "NoLoft": (),
}

EXAMPLES = {
    "row": 3,
    "name": "oak",
    "bar": "low",
    "why": "room",
    "lacks": 10 ** 15,
    "what": "moon",
    "over": 7,
    "number": 0,
    "low": "first",
    "high": "second",
    "piece": "tree",
}


def made(name):
    kind = getattr(errors, name)
    if not FIELDS[name]:
        return kind("any words")
    return kind(*[EXAMPLES[field] for field in FIELDS[name]])


class Refusals(unittest.TestCase):

    def test_there_are_the_twenty_one_told_and_no_other(self):
        kinds = [
            name
            for name, value in vars(errors).items()
            if isinstance(value, type) and issubclass(value, errors.LoftError)
        ]
        self.assertEqual(len(FIELDS), 21)
        self.assertEqual(sorted(kinds), sorted([*FIELDS, "LoftError"]))

    def test_the_base_stands_under_value_error(self):
        self.assertTrue(issubclass(errors.LoftError, ValueError))
        self.assertIsInstance(errors.LoftError("any words"), ValueError)

    def test_each_stands_under_the_base_and_under_no_other(self):
        for name in FIELDS:
            with self.subTest(name=name):
                refusal = made(name)
                self.assertIsInstance(refusal, errors.LoftError)
                self.assertIsInstance(refusal, ValueError)
                for other in FIELDS:
                    if other != name:
                        self.assertNotIsInstance(refusal, getattr(errors, other))

    def test_each_is_taken_by_its_name_and_by_the_base(self):
        for name in FIELDS:
            with self.subTest(name=name):
                with self.assertRaises(getattr(errors, name)):
                    raise made(name)
                with self.assertRaises(errors.LoftError):
                    raise made(name)

    def test_fields_are_kept_under_their_names_in_the_order_told(self):
        for name, fields in FIELDS.items():
            with self.subTest(name=name):
                refusal = made(name)
                self.assertEqual(vars(refusal), {field: EXAMPLES[field] for field in fields})

    def test_none_is_kept_where_the_document_tells_none(self):
        self.assertIsNone(errors.NoRig(None).row)
        heavy = errors.TooHeavy("low", None)
        self.assertEqual(heavy.bar, "low")
        self.assertIsNone(heavy.what)

    def test_two_of_one_kind_keep_fields_of_their_own(self):
        one = errors.Meets("a", "b")
        other = errors.Meets("c", "d")
        self.assertEqual((one.low, one.high), ("a", "b"))
        self.assertEqual((other.low, other.high), ("c", "d"))


if __name__ == "__main__":
    unittest.main()
