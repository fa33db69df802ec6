import itertools
import unittest

from tests.helper import THINGS, WORDS, far_numbers, long_speech, speeches_upto, told_fresh
from twicesaid.errors import NoNumber
from twicesaid.halves import first_half, last_half
from twicesaid.numbers import all_meanings, meanings, number_of, speech_of
from twicesaid.shortest import alike, shortest
from twicesaid.speeches import doubled, words_of


def number_by_definition(speech):
    """The number, by the words of [40]."""
    if not speech:
        return 0
    words = sorted(set(speech))
    n, f = len(words), THINGS[len(words) - 1]
    (p, a), (b, s) = first_half(speech), last_half(speech)
    i, j = words.index(a), words.index(b)
    return ((i * f + number_by_definition(p)) * n + j) * f + number_by_definition(s)


class Meanings(unittest.TestCase):
    """[3], [9], [40]"""

    def test_none_to_six_words(self):
        for many in range(7):
            self.assertEqual(told_fresh(self, meanings, WORDS[:many]), THINGS[many])
            if many:
                self.assertEqual(meanings(WORDS[:many]), (many * meanings(WORDS[:many - 1])) ** 2)

    def test_not_all_said(self):
        self.assertEqual([all_meanings(WORDS[:many]) for many in range(5)], [1, 2, 7, 160, 332381])
        for many in range(7):
            parts = [part for k in range(many + 1) for part in itertools.combinations(WORDS[:many], k)]
            self.assertEqual(len(parts), 2 ** many)
            self.assertEqual(told_fresh(self, all_meanings, WORDS[:many]), sum(THINGS[len(part)] for part in parts))

    def test_any_words_in_any_order(self):
        for words in [["zebra", "ant", "mouse"], ["a", "aa", "aaa"], ["cow", "bee", "ant"]]:
            for row in itertools.permutations(words):
                self.assertEqual(told_fresh(self, meanings, list(row)), 144)
                self.assertEqual(told_fresh(self, all_meanings, list(row)), 160)

    def test_as_many_are_met(self):
        """[5]: so many unlike meanings are there; longer speeches of three words mean nothing new."""
        for many in range(4):
            met = {tuple(shortest(speech)) for speech in speeches_upto(WORDS[:many], 8)}
            self.assertEqual(len(met), all_meanings(WORDS[:many]))
            self.assertEqual(len([row for row in met if len(set(row)) == many]), meanings(WORDS[:many]))
            self.assertEqual(met, {tuple(shortest(list(row) + [word])) for row in met for word in WORDS[:many]} | {()})


class NumberOf(unittest.TestCase):
    """[3], [9], [40]"""

    def test_silence_and_one_word(self):
        self.assertEqual(told_fresh(self, number_of, []), 0)
        self.assertEqual(told_fresh(self, number_of, ["fox"]), 0)
        self.assertEqual(told_fresh(self, number_of, ["ant"] * 300), 0)

    def test_two_words(self):
        rows = [["bee", "ant", "bee"], ["bee", "ant"], ["ant", "bee"], ["ant", "bee", "ant"]]
        self.assertEqual([number_of(row) for row in rows], [0, 1, 2, 3])

    def test_by_the_words_of_the_document(self):
        for speech in speeches_upto(WORDS[:3], 6):
            self.assertEqual(number_of(speech), number_by_definition(speech))
        for unlike in range(1, 7):
            for seed in range(10):
                speech = long_speech(300, unlike, seed)
                self.assertEqual(told_fresh(self, number_of, speech), number_by_definition(speech))
                self.assertLess(number_of(speech), THINGS[len(set(speech))])

    def test_like_speeches_have_the_same(self):
        rows = speeches_upto(WORDS[:3], 4) + [long_speech(20, unlike, seed=unlike) for unlike in (4, 5, 6)]
        for speech in rows:
            self.assertEqual(number_of(speech), number_of(shortest(speech)))
            for at in range(len(speech)):
                for many in range(1, len(speech) - at + 1):
                    self.assertEqual(number_of(doubled(speech, at, many)), number_of(speech))
        self.assertEqual(number_of(WORDS * 50), number_of(WORDS))

    def test_unlike_speeches_of_the_same_words_have_unlike_ones(self):
        rows = speeches_upto(WORDS[:3], 4)
        for one, other in itertools.product(rows, rows):
            if words_of(one) == words_of(other):
                self.assertIs(number_of(one) == number_of(other), alike(one, other))


class SpeechOf(unittest.TestCase):
    """[3], [4], [9], [40]"""

    def test_all_of_none_to_three_words(self):
        for many in range(4):
            told = [told_fresh(self, speech_of, WORDS[:many], number) for number in range(THINGS[many])]
            self.assertEqual([number_of(speech) for speech in told], list(range(THINGS[many])))
            for speech in told:
                self.assertEqual(words_of(speech), WORDS[:many])
                self.assertEqual(shortest(speech), speech)

    def test_some_of_four_to_six_words(self):
        for many in (4, 5, 6):
            for number in far_numbers(THINGS[many]):
                speech = told_fresh(self, speech_of, WORDS[:many], number)
                self.assertEqual(words_of(speech), WORDS[:many])
                self.assertEqual(shortest(speech), speech)
                self.assertEqual(number_of(speech), number)

    def test_there_and_back(self):
        for seed in range(10):
            for unlike in range(1, 7):
                speech = long_speech(300, unlike, seed)
                self.assertEqual(speech_of(words_of(speech), number_of(speech)), shortest(speech))

    def test_words_in_any_order(self):
        for number in (0, 1, 77, 143):
            for row in itertools.permutations(["zebra", "ant", "mouse"]):
                self.assertEqual(told_fresh(self, speech_of, list(row), number),
                                 speech_of(["ant", "mouse", "zebra"], number))
        self.assertEqual(speech_of(WORDS[::-1], 10 ** 26), speech_of(WORDS, 10 ** 26))

    def test_numbers_that_nothing_has(self):
        for many in range(7):
            for number in [THINGS[many], THINGS[many] + 1, 7 * THINGS[many], 10 ** 59, 10 ** 60 - 1]:
                words = WORDS[:many][::-1]
                with self.assertRaises(NoNumber) as caught:
                    speech_of(words, number)
                self.assertEqual(caught.exception.number, number)
                self.assertEqual(words, WORDS[:many][::-1])

    def test_somewhat_beyond_the_limits(self):
        """Nothing is refused there."""
        words = WORDS + ["gnu"]
        self.assertEqual(meanings(words), (7 * THINGS[6]) ** 2)
        self.assertEqual(number_of(speech_of(words, 10 ** 50)), 10 ** 50)


if __name__ == "__main__":
    unittest.main()
