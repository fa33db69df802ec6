import itertools
import unittest

from tests.helper import THINGS, WORDS, far_numbers, long_speech, speeches_upto, told_fresh
from twicesaid.errors import NoNumber, NoWay
from twicesaid.halves import first_half, last_half
from twicesaid.numbers import number_of, speech_of
from twicesaid.rows import first_halves, last_halves
from twicesaid.shares import (common_firsts, common_lasts, early_many, early_number, early_of, late_many, late_number,
                              late_of)
from twicesaid.shortest import alike, shortest
from twicesaid.speeches import by_first, by_last, doubled, words_of

THREE = WORDS[:3]
SHARES = [0, 1, 3, 15, 591, 1659471, 16511298785871]
# All that can be said with three words, silence left out.
SAID = [speech_of(list(words), number) for many in (1, 2, 3) for words in itertools.combinations(THREE, many)
        for number in range(THINGS[many])]
OF_SIX = [WORDS, long_speech(300), long_speech(40, seed=5), ["fox", "eel", "fox", *WORDS, "ant", "cow", "bee"],
          speech_of(WORDS, THINGS[6] // 3)]


def is_early(speech, v):
    """Whether v comes on of the speech, by the words of [50]."""
    return alike(speech + v, v)


def is_late(speech, v):
    return alike(v + speech, v)


def early_order(speech):
    """By what early ones are numbered, from the slowest to the quickest."""
    b, s = last_half(speech)
    return (len(words_of(speech)), words_of(speech).index(b), number_of(s))


def late_order(speech):
    p, a = first_half(speech)
    return (len(words_of(speech)), words_of(speech).index(a), number_of(p))


KINDS = [(early_many, early_of, early_number, is_early, early_order),
         (late_many, late_of, late_number, is_late, late_order)]


class Shares(unittest.TestCase):
    """[3], [4], [52]"""

    def test_how_many(self):
        for many_of in (early_many, late_many):
            for many in range(7):
                self.assertEqual(told_fresh(self, many_of, WORDS[:many]), SHARES[many])
                self.assertEqual(many_of(WORDS[:many][::-1] * 50), SHARES[many])
                self.assertEqual(SHARES[many], sum(m * THINGS[m - 1] for m in range(1, many + 1)))

    def test_all_numbers_of_one_to_three_words(self):
        """Just those that are early, or late, are told, each once, in the order of [52]."""
        for many_of, speech_at, number_in, is_share, order in KINDS:
            for v in SAID[::3] + [["cow"], ["cow", "ant"], ["bee", "bee", "ant", "cow", "ant", "ant", "bee"]]:
                told = [speech_at(v, number) for number in range(many_of(v))]
                self.assertEqual(sorted(told), sorted(row for row in SAID if is_share(row, v)))
                orders = [order(row) for row in told]
                self.assertEqual(orders, sorted(orders))
                self.assertEqual([number_in(v, row) for row in told], list(range(len(told))))

    def test_one_word(self):
        for _, speech_at, number_in, _, _ in KINDS:
            self.assertEqual(told_fresh(self, speech_at, ["ant"] * 3, 0), ["ant"])
            self.assertEqual(told_fresh(self, number_in, ["ant"], ["ant", "ant"]), 0)

    def test_two_words(self):
        v = ["ant", "bee"]
        self.assertEqual([early_of(v, k) for k in range(3)], [["ant"], ["ant", "bee"], ["ant", "bee", "ant"]])
        self.assertEqual([late_of(v, k) for k in range(3)], [["bee"], ["bee", "ant", "bee"], ["ant", "bee"]])

    def test_some_of_six_words(self):
        for many_of, speech_at, number_in, is_share, _ in KINDS:
            for v in OF_SIX:
                for number in far_numbers(many_of(v)) + [2, 3, 14, 15, 590, 591, SHARES[5] - 1, SHARES[5]]:
                    told = told_fresh(self, speech_at, v, number)
                    self.assertEqual(shortest(told), told)
                    self.assertTrue(is_share(told, v))
                    self.assertEqual(told_fresh(self, number_in, v, told), number)

    def test_their_words_and_halves(self):
        for v in OF_SIX + SAID[::10]:
            firsts, lasts = by_first(v), by_last(v)[::-1]
            for many in range(1, len(firsts) + 1):
                for number in (SHARES[many - 1], SHARES[many] - 1):
                    p, a = first_half(early_of(v, number))
                    self.assertEqual(sorted({*p, a}), sorted(firsts[:many]))
                    self.assertEqual((a, shortest(p)), first_halves(v)[many - 1])
                    b, s = last_half(late_of(v, number))
                    self.assertEqual(sorted({*s, b}), sorted(lasts[:many]))
                    self.assertEqual((b, shortest(s)), last_halves(v)[-many])

    def test_numbers_that_nothing_has(self):
        for _, speech_at, _, _, _ in KINDS:
            for many in range(7):
                for number in (SHARES[many], SHARES[many] + 1, 9 * SHARES[many] + 9, 10 ** 60 - 1):
                    v = WORDS[:many]
                    with self.assertRaises(NoNumber) as caught:
                        speech_at(v, number)
                    self.assertEqual(caught.exception.number, number)
                    self.assertEqual(v, WORDS[:many])

    def refused(self, asked, v, speech):
        kept = (list(v), list(speech))
        with self.assertRaises(NoWay):
            asked(v, speech)
        self.assertEqual((v, speech), kept)

    def test_silence_has_no_share_and_leaves_none(self):
        for number_in in (early_number, late_number):
            for v in [[], ["ant"], WORDS, long_speech(300)]:
                self.refused(number_in, v, [])
            self.refused(number_in, [], ["ant"])

    def test_speeches_that_are_none(self):
        for v, speech in [(["ant", "bee"], ["bee"]), (["ant", "bee"], ["bee", "ant"]), (["ant"], ["bee"]),
                          (["ant"], ["ant", "bee"]), (WORDS, ["ant", "cow"]), (WORDS, WORDS[::-1] * 50),
                          (["ant", "bee", "cow"], ["ant", "bee", "ant", "cow"])]:
            self.refused(early_number, v, speech)
            self.refused(late_number, v[::-1], speech[::-1])
        self.refused(late_number, ["ant", "bee"], ["ant"])

    def test_just_those_that_are_none_are_refused(self):
        for _, _, number_in, is_share, _ in KINDS:
            for v in SAID[::9]:
                for speech in SAID:
                    if not is_share(speech, v):
                        self.refused(number_in, v, speech)

    def test_what_was_heard_has_a_number(self):
        """Each beginning of what means v is early, each end late."""
        for unlike in range(1, 7):
            v = long_speech(300, unlike, seed=unlike)
            for at in (1, 2, 10, 150, 299, 300):
                heard = v[:at]
                self.assertEqual(early_of(v, early_number(v, heard)), shortest(heard))
                heard = v[300 - at:]
                self.assertEqual(late_of(v, late_number(v, heard)), shortest(heard))

    def test_like_speeches_are_told_the_same(self):
        for v in SAID[::20]:
            for like in [v + v, doubled(v, 0, 1), doubled(v, len(v) - 1, 1)]:
                for many_of, speech_at, number_in, _, _ in KINDS:
                    number = many_of(v) // 2
                    told = speech_at(v, number)
                    self.assertEqual(many_of(like), many_of(v))
                    self.assertEqual(speech_at(like, number), told)
                    self.assertEqual(number_in(like, told + told), number)


class Common(unittest.TestCase):
    """[3], [53]"""

    def told(self, one, other, firsts, lasts):
        self.assertEqual(told_fresh(self, common_firsts, one, other), firsts)
        self.assertEqual(common_firsts(other, one), firsts)
        self.assertEqual(told_fresh(self, common_lasts, one, other), lasts)
        self.assertEqual(common_lasts(other, one), lasts)

    def test_none(self):
        self.told([], [], 0, 0)
        self.told([], ["ant"], 0, 0)
        self.told(["ant"], ["bee"], 0, 0)
        self.told(WORDS, WORDS[::-1], 0, 0)

    def test_some(self):
        self.told(["ant", "bee", "cow"], ["ant", "bee", "ant", "cow"], 2, 1)
        self.told(["ant", "bee", "cow"], ["ant", "cow", "bee"], 1, 0)
        self.told(["ant", "bee"], ["ant", "bee", "cow"], 2, 0)
        self.told(["bee", "cow"], ["ant", "bee", "cow"], 0, 2)
        self.told(["ant", "bee", "ant", "cow"], ["bee", "ant", "cow"], 0, 3)
        self.told(["ant", "bee", "ant", "cow"], ["bee", "cow", "ant", "cow"], 0, 2)

    def test_what_is_the_same_farther_on_does_not_count(self):
        one, other = ["ant", "bee", "cow", "ant"], ["bee", "ant", "cow", "ant"]
        self.told(one, other, 0, 2)
        self.told(["dog", *one], ["dog", *other], 1, 2)

    def test_all(self):
        for many in range(7):
            self.told(WORDS[:many], WORDS[:many], many, many)
        self.told(WORDS, WORDS * 50, 6, 6)
        for speech in speeches_upto(THREE, 3) + [long_speech(150), long_speech(300)]:
            many = len(words_of(speech))
            self.told(speech, shortest(speech), many, many)

    def test_all_in_one_row_alone(self):
        self.told(["ant", "bee"], ["ant", "bee", "ant"], 2, 0)
        self.told(["bee", "ant"], ["ant", "bee", "ant"], 0, 2)

    def test_three_hundred_words(self):
        row = long_speech(150, 4, seed=2)
        one, other = ["eel", *long_speech(149, seed=3)], ["fox", *long_speech(149, seed=4)]
        self.assertEqual(common_firsts(row + one, row + other), 4)
        self.assertEqual(common_lasts(one[::-1] + row, other[::-1] + row), 4)
        self.assertGreaterEqual(common_firsts(row + one, row + ["eel", *other[1:]]), 5)

    def test_how_many_are_early_or_late_to_both(self):
        rows = SAID[::4]
        early = [{number for number, row in enumerate(SAID) if is_early(row, v)} for v in rows]
        late = [{number for number, row in enumerate(SAID) if is_late(row, v)} for v in rows]
        for k, m in itertools.product(range(len(rows)), repeat=2):
            self.assertEqual(len(early[k] & early[m]), SHARES[common_firsts(rows[k], rows[m])])
            self.assertEqual(len(late[k] & late[m]), SHARES[common_lasts(rows[k], rows[m])])


if __name__ == "__main__":
    unittest.main()
