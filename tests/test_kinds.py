import copy
import unittest

from tests.helper import WORDS, long_speech
from twicesaid.kinds import are_words, is_speech, is_word

NO_TEXTS = [None, True, False, 0, 1, -1, 10 ** 60, b"ant", [], ["ant"], (), ("ant",), {}, {"ant": 1},
            {"ant"}, object(), str, len]
NO_LISTS = [None, True, False, 0, 3, "", "ant", b"ant", (), ("ant",), ("ant", "bee"), {}, {"ant": 1},
            {"ant"}, range(0), object(), list]
NO_WORDS = ["", "Ant", "anT", "a b", "a ", " a", "a-b", "a1", "1", "a_", "_", "a\n", "\n", "`", "{",
            "~", "ninewords", "a" * 9, "a" * 7500, "ANT", "@"]
SEVEN = WORDS + ["gnu"]


class Kinds(unittest.TestCase):
    """[2], [10]"""

    def told(self, asked, thing, expected):
        kept = copy.deepcopy(thing)
        self.assertIs(asked(thing), expected, repr(thing)[:80])
        # Some things (an object, say) are equal to no copy of themselves.
        if isinstance(thing, (list, tuple, dict, set)):
            self.assertEqual(thing, kept)

    def test_words(self):
        for sign in "abcdefghijklmnopqrstuvwxyz":
            self.told(is_word, sign, True)
        for thing in ["ab", "eightwor", "aaaaaaaa", "zzzzzzzz", "aa"]:
            self.told(is_word, thing, True)

    def test_no_words(self):
        for thing in NO_TEXTS + NO_WORDS + ["\u00e9", "\u0430", "\u00df", "\uff41"]:
            self.told(is_word, thing, False)

    def test_speeches(self):
        for thing in [[], ["a"], ["ant", "ant"], WORDS, WORDS + WORDS, ["ant"] * 300, long_speech(300)]:
            self.told(is_speech, thing, True)

    def test_speeches_of_too_many_words(self):
        self.told(is_speech, ["ant"] * 301, False)
        self.told(is_speech, long_speech(301), False)
        self.told(is_speech, ["ant"] * 400, False)

    def test_speeches_of_too_many_unlike_words(self):
        self.told(is_speech, SEVEN, False)
        self.told(is_speech, long_speech(299) + ["gnu"], False)

    def test_speeches_with_something_that_is_no_word(self):
        for thing in NO_TEXTS + NO_WORDS:
            for row in [[thing], ["ant", thing], [thing, "ant"], ["ant"] * 299 + [thing]]:
                self.assertIs(is_speech(row), False)

    def test_words_in_a_list(self):
        for thing in [[], ["a"], ["bee", "ant"], ["ant", "bee"], WORDS, WORDS[::-1]]:
            self.told(are_words, thing, True)

    def test_no_words_in_a_list(self):
        for thing in [["ant", "ant"], ["ant", "bee", "ant"], SEVEN, WORDS + ["ant"], WORDS[:5] + ["ant"],
                      ["ant"] * 400]:
            self.told(are_words, thing, False)
        for thing in NO_TEXTS + NO_WORDS:
            for row in [[thing], ["ant", thing], [thing, "ant"], [thing, thing]]:
                self.assertIs(are_words(row), False)

    def test_things_that_are_no_lists(self):
        for thing in NO_LISTS:
            self.told(is_speech, thing, False)
            self.told(are_words, thing, False)

    def test_lists_within_lists(self):
        for thing in [[[]], [["ant"]], [[[[["ant"]]]]], [("ant",)], [{}], [{"ant": []}], [["ant"], ["ant"]]]:
            self.told(is_word, thing, False)
            self.told(is_speech, thing, False)
            self.told(are_words, thing, False)


if __name__ == "__main__":
    unittest.main()
