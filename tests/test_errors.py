import unittest

from twicesaid import errors

FIELDS = {
    "Wrong": "at", "TooMany": "most", "TooLong": "most", "TooFew": "least", "NoPiece": "at",
    "NotTwice": "at", "NoStrike": None, "NoWords": None, "NoNumber": "number", "NoWay": None,
    "BadHouse": "at", "NoWord": "word", "Known": "name", "NoListener": "name", "NoPlace": "at",
    "Unlike": None, "Nothing": None, "BadRow": "at", "NoName": "name", "NoText": None, "NoLine": None,
}
THINGS = [0, -1, 10 ** 60, True, None, "", "ant", b"ant", [], ["ant", []], (1, 2), {}, {"a": [1]},
          {1, 2}, object(), ValueError("x"), int, len]


class Refusals(unittest.TestCase):
    """[4]"""

    def test_all_are_there(self):
        written = [name for name in vars(errors) if isinstance(getattr(errors, name), type)]
        self.assertEqual(sorted(written), sorted([*FIELDS, "SaidError"]))

    def test_said_error_stands_under_value_error(self):
        self.assertEqual(errors.SaidError.__bases__, (ValueError,))

    def test_each_stands_under_said_error_and_none_of_the_others(self):
        for name in FIELDS:
            kind = getattr(errors, name)
            self.assertTrue(issubclass(kind, errors.SaidError), name)
            self.assertTrue(issubclass(kind, ValueError), name)
            for other in FIELDS:
                if other != name:
                    self.assertFalse(issubclass(kind, getattr(errors, other)), (name, other))

    def test_each_keeps_the_very_thing(self):
        for name, field in FIELDS.items():
            if field is None:
                continue
            for thing in THINGS:
                made = getattr(errors, name)(thing)
                self.assertIs(getattr(made, field), thing, (name, thing))
                self.assertIsInstance(made, errors.SaidError)

    def test_those_without_fields_are_made_of_nothing(self):
        for name, field in FIELDS.items():
            if field is None:
                self.assertEqual(vars(getattr(errors, name)()), {}, name)

    def test_each_may_be_raised_and_caught(self):
        for name, field in FIELDS.items():
            kind = getattr(errors, name)
            with self.assertRaises(kind):
                raise kind() if field is None else kind(["any", "thing"])

    def test_what_is_kept_is_not_copied(self):
        thing = ["ant"]
        made = errors.NoName(thing)
        thing.append("bee")
        self.assertEqual(made.name, ["ant", "bee"])


if __name__ == "__main__":
    unittest.main()
