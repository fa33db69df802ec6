import itertools
import unittest

from tests.helper import WORDS, long_speech, speeches_upto, strikes_by_definition, told_fresh
from twicesaid.errors import NoStrike
from twicesaid.shortest import alike, shortest
from twicesaid.strikes import is_strike, some_strike, strikes, struck

SPEECH = ["ant", "bee", "cow", "cow", "bee", "ant", "bee"]
TWICE = ("twice", 2, 1)
BETWEENS = ["ant", "bee", "bee", "ant", "bee", "ant"]
NO_TUPLES = [None, True, False, 0, 2, -1, 10 ** 60, "", "twice", b"twice", [], list(TWICE), {}, {"twice": 2},
             {"twice", 2, 1}, object(), tuple, len]
NO_STRIKES = [(), ("twice",), ("between",), ("twice", 2), ("twice", 2, 1, 1), ("twice", 2, 1, 1, 1),
              ("between", 2, 1), ("between", 2, 1, 1), ("Twice", 2, 1), ("", 2, 1), ("single", 2, 1), (2, 2, 1),
              (None, 2, 1), (b"twice", 2, 1), (["twice"], 2, 1), (("twice",), 2, 1), ("twice", (2, 1)),
              ("twice", [2], 1), ("twice", 2, [1]), ("twice", "2", 1), ("twice", 2, "1"), ("twice", None, 1),
              ("twice", 2, None), ("twice", 2, {}), ("twice", {}, 1), (TWICE,), (TWICE, 2, 1), ("twice",) * 3,
              (2, 1, "twice"), ("between",) * 5, (1,) * 3, (1,) * 5, (1,) * 6000, ({}, 2, 1), ({"twice"}, 2, 1),
              (object(), 2, 1), ("twice", object(), 1)]


class IsStrike(unittest.TestCase):
    """[2], [20]"""

    def none_of(self, speech, thing):
        self.assertIs(is_strike(speech, thing), False, repr(thing)[:80])
        kept = list(speech)
        with self.assertRaises(NoStrike):
            struck(speech, thing)
        self.assertEqual(speech, kept)

    def test_twice(self):
        self.assertIs(told_fresh(self, is_strike, SPEECH, TWICE), True)
        self.assertIs(is_strike(["ant", "bee"] * 2, ("twice", 0, 2)), True)
        self.assertIs(is_strike(["cow", "ant", "bee", "ant", "bee"], ("twice", 1, 2)), True)
        for thing in [("twice", 1, 1), ("twice", 3, 1), ("twice", 2, 2), ("twice", 2, 0), ("twice", 2, -1),
                      ("twice", -2, 1), ("twice", 6, 1), ("twice", 7, 1), ("twice", 10 ** 59, 1),
                      ("twice", 2, 10 ** 59), ("twice", -5, 1), ("twice", 4, -1), ("between", 2, 1)]:
            self.none_of(SPEECH, thing)

    def test_places_ahead_of_the_first_one(self):
        self.none_of(["ant"] * 4, ("twice", -1, 1))
        self.none_of(["ant"] * 4, ("twice", -4, 1))
        self.none_of(["ant"] * 4, ("between", -1, 1, 1, 1))
        self.none_of(["ant"] * 4, ("between", 0, 1, 1, 1))

    def test_between(self):
        self.assertIs(told_fresh(self, is_strike, BETWEENS, ("between", 2, 1, 2, 2)), True)
        self.assertIs(is_strike(BETWEENS, ("between", 2, 2, 2, 2)), True)
        for thing in [("between", 1, 1, 2, 2), ("between", 2, 1, 1, 2), ("between", 2, 1, 2, 1),
                      ("between", 2, 0, 2, 2), ("between", 2, 1, 0, 2), ("between", 2, 1, 2, 0),
                      ("between", 2, -1, 2, 2), ("between", 2, 1, -2, 2), ("between", 2, 1, 2, -2),
                      ("between", 2, 1, 3, 2), ("between", 2, 1, 2, 4), ("between", 2, 4, 2, 2),
                      ("between", 10 ** 59, 1, 2, 2), ("between", 2, 10 ** 59, 2, 2),
                      ("between", 2, 1, 10 ** 59, 2), ("between", 2, 1, 2, 10 ** 59),
                      ("twice", 2, 1, 2, 2), ("between", 2, 1, 2), ("between", 2, 1, 2, 2, 2)]:
            self.none_of(BETWEENS, thing)

    def test_between_of_other_words(self):
        self.none_of(["ant", "bee", "ant"], ("between", 1, 1, 1, 1))
        self.none_of(["ant", "bee", "ant", "cow"], ("between", 2, 1, 2, 1))
        self.none_of(["ant", "bee", "ant", "bee", "ant", "cow"], ("between", 2, 1, 2, 3))
        self.none_of(["ant", "bee", "cow", "bee", "ant"], ("between", 2, 1, 2, 2))
        self.assertIs(is_strike(["ant", "bee", "cow", "bee", "ant", "cow"], ("between", 3, 1, 3, 2)), False)

    def test_truths_are_no_numbers(self):
        speech = ["ant"] * 5
        self.assertIs(is_strike(speech, ("twice", 1, 1)), True)
        self.assertIs(is_strike(speech, ("between", 1, 1, 1, 1)), True)
        for thing in [("twice", True, 1), ("twice", 1, True), ("twice", False, 1), ("between", True, 1, 1, 1),
                      ("between", 1, True, 1, 1), ("between", 1, 1, True, 1), ("between", 1, 1, 1, True)]:
            self.none_of(speech, thing)

    def test_lists_are_no_tuples(self):
        self.none_of(SPEECH, list(TWICE))
        self.none_of(BETWEENS, ["between", 2, 1, 2, 2])
        self.none_of(SPEECH, ("twice", [2, 1]))

    def test_things_of_other_kinds(self):
        for thing in NO_TUPLES + NO_STRIKES:
            self.none_of(SPEECH, thing)
            self.none_of(BETWEENS, thing)
        self.none_of([], ("twice", 0, 0))
        self.none_of([], ("twice", 0, 1))

    def test_things_that_say_they_are_equal_to_all(self):
        class Equal:
            def __eq__(self, other):
                return True

        self.none_of(SPEECH, (Equal(), 2, 1))
        self.none_of(SPEECH, ("twice", Equal(), 1))
        self.none_of(BETWEENS, (Equal(), 2, 1, 2, 2))

    def test_all_tuples_of_short_speeches(self):
        for speech in speeches_upto(WORDS[:2], 5) + [["ant", "bee", "cow", "ant", "bee"], SPEECH[:5]]:
            found = set(strikes_by_definition(speech))
            numbers = range(-1, len(speech) + 2)
            for at, many in itertools.product(numbers, numbers):
                thing = ("twice", at, many)
                self.assertIs(is_strike(speech, thing), thing in found)
            for row in itertools.product(numbers, repeat=4):
                thing = ("between", *row)
                self.assertIs(is_strike(speech, thing), thing in found)


class Struck(unittest.TestCase):
    """[3], [20]"""

    def test_twice(self):
        self.assertEqual(told_fresh(self, struck, SPEECH, TWICE), ["ant", "bee", "cow", "bee", "ant", "bee"])
        self.assertEqual(told_fresh(self, struck, ["cow", "ant", "bee", "ant", "bee"], ("twice", 1, 2)),
                         ["cow", "ant", "bee"])

    def test_between(self):
        speech = ["dog", "ant", "bee", "cow", "bee", "ant", "cow", "bee", "dog"]
        self.assertEqual(told_fresh(self, struck, speech, ("between", 4, 1, 3, 3)),
                         ["dog", "ant", "bee", "cow", "ant", "cow", "bee", "dog"])
        self.assertEqual(told_fresh(self, struck, BETWEENS, ("between", 2, 2, 2, 2)), ["ant", "bee", "bee", "ant"])

    def test_all_of_short_speeches(self):
        for speech in speeches_upto(WORDS[:3], 5):
            for strike in strikes_by_definition(speech):
                at, many = strike[1:3]
                self.assertEqual(struck(speech, strike), speech[:at] + speech[at + many:])


class SomeStrike(unittest.TestCase):
    """[3], [20]"""

    def test_just_where_there_is_one(self):
        rows = speeches_upto(WORDS[:3], 7)
        rows += [shortest(long_speech(30, unlike, seed)) for unlike in (4, 5) for seed in range(3)]
        rows += [long_speech(many, unlike, seed) for many in (9, 12) for unlike in (4, 5, 6) for seed in range(9)]
        for speech in rows:
            told = some_strike(speech)
            found = strikes_by_definition(speech)
            if found:
                self.assertIn(told, found)
            else:
                self.assertIsNone(told, speech)

    def test_where_it_stands_between_alone(self):
        speech = "a b c b a c b".split()
        self.assertEqual({row[0] for row in strikes_by_definition(speech)}, {"between"})
        self.assertEqual(some_strike(speech)[0], "between")
        self.assertEqual(struck(speech, some_strike(speech)), "a b c a c b".split())

    def test_silence_and_one_word(self):
        self.assertIsNone(some_strike([]))
        self.assertIsNone(some_strike(["ant"]))
        self.assertEqual(some_strike(["ant", "ant"]), ("twice", 0, 1))

    def test_it_is_told_alike_each_time(self):
        told_fresh(self, some_strike, long_speech(40))


class Strikes(unittest.TestCase):
    """[3], [20], [21]"""

    def done(self, speech):
        left = speech
        for strike in told_fresh(self, strikes, speech):
            self.assertIs(is_strike(left, strike), True)
            left = struck(left, strike)
        self.assertIsNone(some_strike(left))
        return left

    def test_none(self):
        self.assertEqual(told_fresh(self, strikes, []), [])
        self.assertEqual(told_fresh(self, strikes, WORDS), [])
        self.assertEqual(told_fresh(self, strikes, "a b a c a b c b".split()), [])

    def test_short_speeches(self):
        for speech in speeches_upto(WORDS[:3], 6):
            left = self.done(speech)
            self.assertEqual(strikes_by_definition(left), [])
            self.assertEqual(left, shortest(speech))

    def test_forty_words(self):
        for unlike in range(1, 7):
            for seed in range(8):
                speech = long_speech(40, unlike, seed)
                self.assertEqual(self.done(speech), shortest(speech))

    def test_somewhat_beyond_the_limits(self):
        """Nothing is refused there."""
        speech = long_speech(50) + ["gnu"]
        self.assertEqual(self.done(speech), shortest(speech))

    def test_strikes_change_no_meaning(self):
        rows = speeches_upto(WORDS[:3], 5) + [long_speech(14, unlike, seed) for unlike in (3, 4) for seed in (1, 2)]
        for speech in rows:
            for strike in strikes_by_definition(speech):
                self.assertIs(alike(struck(speech, strike), speech), True)


class InWhateverOrder(unittest.TestCase):
    """[21]"""

    def test_one_comes_to_the_same_speech(self):
        ends = {}

        def ends_of(speech):
            key = tuple(speech)
            if key not in ends:
                behind = [struck(speech, strike) for strike in strikes_by_definition(speech)]
                ends[key] = set().union(*[ends_of(row) for row in behind]) if behind else {key}
            return ends[key]

        rows = speeches_upto(WORDS[:3], 7) + [long_speech(13, 4, seed) for seed in range(12)]
        for speech in rows:
            self.assertEqual(ends_of(speech), {tuple(shortest(speech))})


if __name__ == "__main__":
    unittest.main()
