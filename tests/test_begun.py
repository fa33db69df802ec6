import itertools
import unittest

from tests.helper import THINGS, WORDS, far_numbers, long_speech, speeches_upto, told_fresh
from twicesaid.begun import begun_many, begun_number, begun_of
from twicesaid.errors import NoNumber, NoWay
from twicesaid.halves import first_half, last_half
from twicesaid.numbers import meanings, number_of, speech_of
from twicesaid.shortest import alike, shortest
from twicesaid.speeches import doubled, words_of
from twicesaid.ways import comes_on

THREE = WORDS[:3]


def many_by_definition(n, m):
    if n == 0:
        return 1
    if m == n:
        return n * THINGS[n - 1]
    return (n - m) * many_by_definition(n - 1, m) * n * THINGS[n - 1]


def order_by_definition(words, speech, other):
    """By what the other one is numbered, the places and numbers of [41] from the slowest to the quickest."""
    if not words:
        return ()
    words = sorted(words)
    (p, a), (b, s) = first_half(other), last_half(other)
    last = (words.index(b), number_of(s))
    lacking = [word for word in words if word not in speech]
    if not lacking:
        return last
    return (lacking.index(a), *order_by_definition([word for word in words if word != a], speech, p), *last)


class Begun(unittest.TestCase):
    """[3], [4], [41]"""

    def refused(self, words, speech, number):
        kept = (list(words), list(speech))
        with self.assertRaises(NoNumber) as caught:
            begun_of(words, speech, number)
        self.assertEqual(caught.exception.number, number)
        self.assertEqual((words, speech), kept)

    def test_no_words(self):
        self.assertEqual(told_fresh(self, begun_many, [], []), 1)
        self.assertEqual(told_fresh(self, begun_of, [], [], 0), [])
        self.assertEqual(told_fresh(self, begun_number, [], [], []), 0)
        for number in (1, 2, 10 ** 60 - 1):
            self.refused([], [], number)

    def test_one_word(self):
        for speech in [[], ["ant"], ["ant"] * 300]:
            self.assertEqual(told_fresh(self, begun_many, ["ant"], speech), 1)
            self.assertEqual(told_fresh(self, begun_of, ["ant"], speech, 0), ["ant"])
            self.assertEqual(told_fresh(self, begun_number, ["ant"], speech, ["ant"] * 2), 0)
            self.refused(["ant"], speech, 1)

    def test_how_many(self):
        for n in range(7):
            for m in range(n + 1):
                expected = many_by_definition(n, m)
                self.assertEqual(told_fresh(self, begun_many, WORDS[:n], WORDS[:m]), expected)
                self.assertEqual(begun_many(WORDS[:n][::-1], WORDS[n - m:n] * 50), expected)
        self.assertEqual([begun_many(THREE, WORDS[:m]) for m in range(4)], [144, 48, 24, 12])

    def test_from_silence_all_of_them_come(self):
        for n in range(7):
            self.assertEqual(begun_many(WORDS[:n], []), meanings(WORDS[:n]))

    def test_all_numbers_of_two_and_of_three_words(self):
        """Just those that come on of the speech are told, each once, in the order of [41]."""
        for n in (2, 3):
            words = WORDS[:n]
            every = [speech_of(words, number) for number in range(meanings(words))]
            for speech in speeches_upto(words, 3):
                coming = [row for row in every if comes_on(speech, row)]
                told = [begun_of(words, speech, number) for number in range(begun_many(words, speech))]
                self.assertEqual(sorted(told), sorted(coming))
                orders = [order_by_definition(words, speech, row) for row in told]
                self.assertEqual(orders, sorted(orders))
                self.assertEqual([begun_number(words, speech, row) for row in told], list(range(len(told))))
                self.refused(words, speech, len(told))

    def test_some_numbers_of_four_to_six_words(self):
        for n in (4, 5, 6):
            for m in range(n + 1):
                words, speech = WORDS[:n], WORDS[n - m:n][::-1] + WORDS[n - m:n]
                for number in far_numbers(begun_many(words, speech)):
                    told = told_fresh(self, begun_of, words, speech, number)
                    self.assertEqual(words_of(told), words)
                    self.assertEqual(shortest(told), told)
                    self.assertIs(comes_on(speech, told), True)
                    self.assertEqual(told_fresh(self, begun_number, words, speech, told), number)

    def test_numbers_that_nothing_has(self):
        for n in range(7):
            for m in range(n + 1):
                many = begun_many(WORDS[:n], WORDS[:m])
                for number in (many, many + 1, 9 * many, 10 ** 60 - 1):
                    self.refused(WORDS[:n], WORDS[:m], number)

    def test_its_own_number_where_it_has_all_the_words(self):
        for unlike in range(1, 7):
            speech = long_speech(300, unlike, seed=unlike)
            number = begun_number(words_of(speech), speech, speech)
            self.assertEqual(begun_of(words_of(speech), speech, number), shortest(speech))
            self.assertIs(alike(first_half(begun_of(words_of(speech), speech, 0))[0], first_half(speech)[0]), True)

    def test_long_ones(self):
        for unlike in range(1, 7):
            for seed in range(5):
                speech = long_speech(150, unlike, seed)
                other = speech + long_speech(150, 6, seed + 9)
                number = told_fresh(self, begun_number, WORDS, speech, other)
                self.assertEqual(told_fresh(self, begun_of, WORDS, speech, number), shortest(other))

    def test_like_speeches_are_told_the_same(self):
        for speech in speeches_upto(THREE, 3)[1:]:
            for other in [doubled(speech, 0, len(speech)), doubled(speech, 0, 1), shortest(speech)]:
                self.assertEqual(begun_many(THREE, other), begun_many(THREE, speech))
                self.assertEqual(begun_of(THREE, other, 11), begun_of(THREE, speech, 11))
                told = begun_of(THREE, speech, 7)
                self.assertEqual(begun_number(THREE, other, told + told), 7)

    def test_words_in_any_order(self):
        words = ["zebra", "ant", "mouse", "bee"]
        for speech in [[], ["mouse"], ["zebra", "ant"], ["bee", "zebra", "bee", "ant"], words]:
            for row in itertools.permutations(words):
                for number in far_numbers(begun_many(words, speech)):
                    told = begun_of(list(row), speech, number)
                    self.assertEqual(told, begun_of(sorted(words), speech, number))
                    self.assertEqual(begun_number(list(row), speech, told), number)
        told_fresh(self, begun_of, words, ["mouse"], 5)
        told_fresh(self, begun_number, words, ["mouse"], ["mouse", "zebra", "ant", "bee"])

    def test_others_that_do_not_come(self):
        for words, speech, other in [(["ant", "bee"], ["bee"], ["ant", "bee"]), (WORDS, ["fox"], WORDS),
                                     (["ant", "bee"], ["bee", "ant"], ["ant", "bee"]),
                                     (THREE, ["ant", "bee"], ["ant", "cow", "bee"]),
                                     (THREE, ["ant", "bee", "cow"], ["ant", "bee", "ant", "cow"]),
                                     (WORDS, WORDS, WORDS[::-1] * 50)]:
            kept = (list(words), list(speech), list(other))
            with self.assertRaises(NoWay):
                begun_number(words, speech, other)
            self.assertEqual((words, speech, other), kept)

    def test_just_those_that_do_not_come_are_refused(self):
        every = [speech_of(THREE, number) for number in range(144)]
        for speech in speeches_upto(THREE, 3):
            for other in every:
                if not comes_on(speech, other):
                    with self.assertRaises(NoWay):
                        begun_number(THREE, speech, other)


if __name__ == "__main__":
    unittest.main()
