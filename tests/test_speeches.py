import unittest

from tests.helper import WORDS, long_speech, speeches_upto, told_fresh
from twicesaid.errors import NoPiece, NotTwice, TooLong, TooMany
from twicesaid.kinds import is_speech
from twicesaid.speeches import by_first, by_last, doubled, replaced, single, turned, without, words_of

FAR = 10 ** 59


class Told(unittest.TestCase):
    """[3], [11]"""

    def test_silence(self):
        for asked in [words_of, by_first, by_last, turned]:
            self.assertEqual(told_fresh(self, asked, []), [])
        self.assertEqual(told_fresh(self, without, [], ["ant"]), [])

    def test_one_word(self):
        for asked in [words_of, by_first, by_last]:
            self.assertEqual(told_fresh(self, asked, ["ant"]), ["ant"])
            self.assertEqual(told_fresh(self, asked, ["ant"] * 3), ["ant"])
        self.assertEqual(told_fresh(self, turned, ["ant"]), ["ant"])

    def test_several_words(self):
        speech = ["cow", "ant", "bee", "ant", "cow", "cow", "dog", "bee"]
        self.assertEqual(told_fresh(self, words_of, speech), ["ant", "bee", "cow", "dog"])
        self.assertEqual(told_fresh(self, by_first, speech), ["cow", "ant", "bee", "dog"])
        self.assertEqual(told_fresh(self, by_last, speech), ["ant", "cow", "dog", "bee"])
        self.assertEqual(told_fresh(self, turned, speech),
                         ["bee", "dog", "cow", "cow", "ant", "bee", "ant", "cow"])

    def test_six_words(self):
        speech = ["fox", "eel", "dog", "cow", "bee", "ant"]
        self.assertEqual(told_fresh(self, words_of, speech), WORDS)
        self.assertEqual(told_fresh(self, by_first, speech), speech)
        self.assertEqual(told_fresh(self, by_last, speech), speech)
        self.assertEqual(told_fresh(self, turned, speech), WORDS)
        self.assertEqual(told_fresh(self, by_last, speech + ["fox"]), speech[1:] + ["fox"])

    def test_words_are_sorted_as_texts(self):
        self.assertEqual(words_of(["b", "ab", "aa", "a", "b"]), ["a", "aa", "ab", "b"])

    def test_places_of_all_short_speeches(self):
        for speech in speeches_upto(WORDS[:3], 5):
            firsts = {word: place for place, word in reversed(list(enumerate(speech)))}
            lasts = {word: place for place, word in enumerate(speech)}
            self.assertEqual(by_first(speech), sorted(firsts, key=firsts.get))
            self.assertEqual(by_last(speech), sorted(lasts, key=lasts.get))
            self.assertEqual(words_of(speech), sorted(firsts))

    def test_three_hundred_words(self):
        speech = ["eel"] + long_speech(299)
        self.assertEqual(told_fresh(self, words_of, speech), WORDS)
        self.assertEqual(told_fresh(self, by_first, speech)[0], "eel")
        self.assertEqual(told_fresh(self, by_last, speech)[-1], speech[-1])
        self.assertEqual(told_fresh(self, turned, speech), list(reversed(speech)))
        left = told_fresh(self, without, speech, ["eel"])
        self.assertEqual(len(left), 300 - speech.count("eel"))


class Without(unittest.TestCase):
    """[3], [11]"""

    def test_words_left_out(self):
        speech = ["ant", "bee", "ant", "cow", "bee"]
        self.assertEqual(told_fresh(self, without, speech, ["ant"]), ["bee", "cow", "bee"])
        self.assertEqual(told_fresh(self, without, speech, ["cow", "bee"]), ["ant", "ant"])
        self.assertEqual(told_fresh(self, without, speech, ["cow", "bee", "ant"]), [])

    def test_words_that_it_has_not(self):
        speech = ["ant", "bee", "ant"]
        self.assertEqual(told_fresh(self, without, speech, []), speech)
        self.assertEqual(told_fresh(self, without, speech, ["dog", "an", "be"]), speech)
        self.assertEqual(told_fresh(self, without, speech, ["dog", "bee"]), ["ant", "ant"])


class Replaced(unittest.TestCase):
    """[3], [11]"""

    def test_words_replaced(self):
        table = {"ant": ["dog", "ant"], "bee": [], "gnu": ["fox"]}
        self.assertEqual(told_fresh(self, replaced, ["ant", "bee", "cow", "ant"], table),
                         ["dog", "ant", "cow", "dog", "ant"])

    def test_what_stands_in_a_place_is_not_replaced_again(self):
        self.assertEqual(replaced(["ant", "bee"], {"ant": ["bee"], "bee": ["ant"]}), ["bee", "ant"])

    def test_silence_and_no_keys(self):
        self.assertEqual(told_fresh(self, replaced, [], {"ant": ["bee"]}), [])
        self.assertEqual(told_fresh(self, replaced, ["ant", "bee"], {}), ["ant", "bee"])
        self.assertEqual(told_fresh(self, replaced, ["ant"], {"ant": []}), [])

    def test_a_speech_of_the_table_stays_its_own(self):
        table = {"ant": ["bee"]}
        told = replaced(["ant"], table)
        told.append("cow")
        self.assertEqual(table, {"ant": ["bee"]})
        self.assertEqual(replaced(["ant"], table), ["bee"])

    def test_six_unlike_words_and_seven(self):
        table = {"ant": ["gnu", "hen"]}
        self.assertEqual(replaced(["ant", "bee", "cow", "dog", "eel"], table),
                         ["gnu", "hen", "bee", "cow", "dog", "eel"])
        self.assertEqual(replaced(WORDS, {"ant": ["gnu"]}), ["gnu"] + WORDS[1:])
        with self.assertRaises(TooMany) as caught:
            replaced(WORDS, table)
        self.assertEqual(caught.exception.most, 6)

    def test_three_hundred_words_and_more(self):
        self.assertEqual(replaced(["ant"] * 100, {"ant": ["bee", "cow", "dog"]}), ["bee", "cow", "dog"] * 100)
        self.assertEqual(len(replaced(["ant"] * 299 + ["bee"], {"bee": ["ant"]})), 300)
        with self.assertRaises(TooLong) as caught:
            replaced(["ant"] * 299 + ["bee"], {"bee": ["ant", "ant"]})
        self.assertEqual(caught.exception.most, 300)
        with self.assertRaises(TooLong):
            replaced(["ant"] * 300, {"ant": ["ant"] * 300})

    def test_too_many_ahead_of_too_long(self):
        with self.assertRaises(TooMany) as caught:
            replaced(["ant"] * 300, {"ant": WORDS + ["gnu"]})
        self.assertEqual(caught.exception.most, 6)

    def test_what_is_refused_changes_nothing(self):
        speech = ["ant"] * 300
        table = {"ant": ["ant", "bee"]}
        with self.assertRaises(TooLong):
            replaced(speech, table)
        self.assertEqual((speech, table), (["ant"] * 300, {"ant": ["ant", "bee"]}))


class Doubled(unittest.TestCase):
    """[3], [12]"""

    def refused(self, speech, at, many):
        kept = list(speech)
        with self.assertRaises(NoPiece) as caught:
            doubled(speech, at, many)
        self.assertEqual(caught.exception.at, at)
        self.assertEqual(speech, kept)

    def test_pieces(self):
        speech = ["ant", "bee", "cow"]
        self.assertEqual(told_fresh(self, doubled, speech, 0, 1), ["ant", "ant", "bee", "cow"])
        self.assertEqual(told_fresh(self, doubled, speech, 0, 2), ["ant", "bee", "ant", "bee", "cow"])
        self.assertEqual(told_fresh(self, doubled, speech, 1, 1), ["ant", "bee", "bee", "cow"])
        self.assertEqual(told_fresh(self, doubled, speech, 1, 2), ["ant", "bee", "cow", "bee", "cow"])
        self.assertEqual(told_fresh(self, doubled, speech, 2, 1), ["ant", "bee", "cow", "cow"])
        self.assertEqual(told_fresh(self, doubled, speech, 0, 3), speech + speech)

    def test_no_piece(self):
        speech = ["ant", "bee", "cow"]
        for at, many in [(0, 0), (1, 0), (2, 0), (3, 0), (4, 0), (3, 1), (0, 4), (1, 3), (2, 2), (4, 1),
                         (FAR, 1), (0, FAR), (FAR, FAR)]:
            self.refused(speech, at, many)
        self.refused([], 0, 0)
        self.refused([], 0, 1)

    def test_just_three_hundred_words(self):
        speech = long_speech(290)
        self.assertEqual(len(doubled(speech, 280, 10)), 300)
        self.assertEqual(doubled(long_speech(150), 0, 150), long_speech(150) * 2)
        for row, at, many in [(speech, 0, 11), (speech, 279, 11), (long_speech(300), 299, 1),
                              (long_speech(151), 0, 151)]:
            with self.assertRaises(TooLong) as caught:
                doubled(row, at, many)
            self.assertEqual(caught.exception.most, 300)

    def test_no_piece_ahead_of_too_long(self):
        self.refused(long_speech(300), 300, 1)
        self.refused(long_speech(300), 0, 301)
        self.refused(long_speech(300), 299, 2)


class Single(unittest.TestCase):
    """[3], [12]"""

    def refused(self, speech, at, many):
        kept = list(speech)
        with self.assertRaises(NotTwice) as caught:
            single(speech, at, many)
        self.assertEqual(caught.exception.at, at)
        self.assertEqual(speech, kept)

    def test_pieces(self):
        self.assertEqual(told_fresh(self, single, ["ant", "ant", "bee"], 0, 1), ["ant", "bee"])
        self.assertEqual(told_fresh(self, single, ["bee", "ant", "ant", "bee"], 1, 1), ["bee", "ant", "bee"])
        self.assertEqual(told_fresh(self, single, ["bee", "ant", "ant"], 1, 1), ["bee", "ant"])
        self.assertEqual(told_fresh(self, single, ["cow", "ant", "bee", "ant", "bee"], 1, 2), ["cow", "ant", "bee"])
        self.assertEqual(told_fresh(self, single, long_speech(150) * 2, 0, 150), long_speech(150))

    def test_not_the_same(self):
        self.refused(["ant", "bee"], 0, 1)
        self.refused(["ant", "bee", "ant", "cow"], 0, 2)
        self.refused(["ant", "bee", "bee", "ant"], 0, 2)
        self.refused(["ant", "ant", "bee", "ant"], 1, 1)

    def test_one_is_no_piece(self):
        speech = ["ant"] * 4
        for at, many in [(0, 0), (2, 0), (4, 0), (3, 1), (4, 1), (5, 1), (0, 3), (1, 2), (2, 2), (3, 2),
                         (0, 4), (0, 5), (FAR, 1), (0, FAR), (FAR, FAR)]:
            self.refused(speech, at, many)
        self.refused([], 0, 0)
        self.refused([], 0, 1)

    def test_it_undoes_doubled(self):
        for speech in speeches_upto(WORDS[:3], 5):
            for at in range(len(speech)):
                for many in range(1, len(speech) - at + 1):
                    told = doubled(speech, at, many)
                    self.assertEqual(told, speech[:at] + speech[at:at + many] * 2 + speech[at + many:])
                    self.assertTrue(is_speech(told))
                    self.assertEqual(single(told, at, many), speech)


if __name__ == "__main__":
    unittest.main()
