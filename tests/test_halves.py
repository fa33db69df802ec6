import unittest

from tests.helper import WORDS, long_speech, speeches_upto, told_fresh
from twicesaid.errors import NoWords
from twicesaid.halves import first_half, last_half


class Halves(unittest.TestCase):
    """[3], [30]"""

    def test_silence_is_refused(self):
        for asked in [first_half, last_half]:
            with self.assertRaises(NoWords):
                asked([])

    def test_one_word(self):
        self.assertEqual(told_fresh(self, first_half, ["ant"]), ([], "ant"))
        self.assertEqual(told_fresh(self, last_half, ["ant"]), ("ant", []))
        self.assertEqual(told_fresh(self, first_half, ["ant"] * 5), ([], "ant"))
        self.assertEqual(told_fresh(self, last_half, ["ant"] * 5), ("ant", []))

    def test_several_words(self):
        speech = ["cow", "ant", "cow", "bee", "ant", "bee", "cow"]
        self.assertEqual(told_fresh(self, first_half, speech), (["cow", "ant", "cow"], "bee"))
        self.assertEqual(told_fresh(self, last_half, speech), ("ant", ["bee", "cow"]))

    def test_six_unlike_words(self):
        self.assertEqual(told_fresh(self, first_half, WORDS), (WORDS[:5], "fox"))
        self.assertEqual(told_fresh(self, last_half, WORDS), ("ant", WORDS[1:]))
        self.assertEqual(first_half(WORDS * 50), (WORDS[:5], "fox"))
        self.assertEqual(last_half(WORDS * 50), ("ant", WORDS[1:]))

    def test_three_hundred_words(self):
        speech = long_speech(299, 5) + ["fox"]
        self.assertEqual(told_fresh(self, first_half, speech), (speech[:299], "fox"))
        self.assertEqual(told_fresh(self, last_half, speech[::-1]), ("fox", speech[298::-1]))

    def test_all_short_speeches(self):
        for speech in speeches_upto(WORDS[:3], 6)[1:]:
            firsts = [place for place, word in enumerate(speech) if word not in speech[:place]]
            lasts = [place for place, word in enumerate(speech) if word not in speech[place + 1:]]
            self.assertEqual(first_half(speech), (speech[:max(firsts)], speech[max(firsts)]))
            self.assertEqual(last_half(speech), (speech[min(lasts)], speech[min(lasts) + 1:]))

    def test_the_kinds_of_what_is_told(self):
        for told in [first_half(["ant", "bee"]), last_half(["ant", "bee"])]:
            self.assertIs(type(told), tuple)
        self.assertIs(type(first_half(["ant", "bee"])[0]), list)
        self.assertIs(type(last_half(["ant", "bee"])[1]), list)


if __name__ == "__main__":
    unittest.main()
