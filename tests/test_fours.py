import itertools
import unittest

from tests.helper import THINGS, WORDS, chance_meanings, far_numbers, long_speech, meanings_upto, speeches_upto
from tests.helper import told_fresh
from twicesaid.deaf import alike_to
from twicesaid.errors import TooFew
from twicesaid.fours import four
from twicesaid.numbers import number_of, speech_of
from twicesaid.shortest import alike, shortest
from twicesaid.speeches import without, words_of


def heard_by_all_deaf_to_one(speech):
    """What is heard, as shortest speeches, by those who are deaf to one of its words each."""
    return [shortest(without(speech, [word])) for word in words_of(speech)]


class Four(unittest.TestCase):
    """[3], [8], [72]"""

    def looked_at(self, speech):
        told = told_fresh(self, four, speech)
        self.assertIs(type(told), list)
        self.assertEqual(len(told), 4)
        self.assertEqual(told, sorted(told))
        self.assertIn(shortest(speech), told)
        for row in told:
            self.assertIs(type(row), list)
            self.assertEqual(row, shortest(row))
            self.assertEqual(words_of(row), words_of(speech))
            self.assertEqual(four(row), told)
            self.assertEqual(heard_by_all_deaf_to_one(row), heard_by_all_deaf_to_one(speech))
        for one, other in itertools.combinations(told, 2):
            self.assertNotEqual(one, other)
            self.assertFalse(alike(one, other))
        return told

    def test_two_words(self):
        expected = [["ant", "bee"], ["ant", "bee", "ant"], ["bee", "ant"], ["bee", "ant", "bee"]]
        for speech in speeches_upto(WORDS[:2], 5):
            if len(set(speech)) == 2:
                self.assertEqual(self.looked_at(speech), expected)

    def test_three_words(self):
        # Its first half is (ant bee, cow), the twin of that (ant bee ant, cow); its last half is (ant, bee cow), the
        # twin of that (ant, cow bee cow).
        expected = ["ant bee ant cow ant bee cow", "ant bee ant cow bee cow", "ant bee cow",
                    "ant bee cow ant cow bee cow"]
        self.assertEqual(self.looked_at(["ant", "bee", "cow"]), [row.split() for row in expected])

    def test_no_others(self):
        """Of two and three words, by going through all meanings."""
        for many in (2, 3):
            heard = {}
            for number in range(THINGS[many]):
                row = speech_of(WORDS[:many], number)
                heard.setdefault(str(heard_by_all_deaf_to_one(row)), []).append(row)
            for rows in heard.values():
                self.assertEqual(len(rows), 4)
                for row in rows:
                    self.assertEqual(four(row), sorted(rows))

    def test_who_is_deaf_to_one_word_hears_unlike_words_unlike(self):
        """So what is heard alike by all has the same words, and the going through above may leave out the others."""
        rows = meanings_upto(3)
        for speech in (["ant", "bee"], ["cow", "ant"], ["ant", "bee", "cow"], ["cow", "bee", "ant", "cow"]):
            many = len(set(speech)) - 1
            alike_ones = [row for row in rows if alike_to(speech, row, many) and set(row) == set(speech)]
            self.assertEqual(sorted(alike_ones), four(speech))
            if many > 1:
                self.assertEqual([row for row in rows if alike_to(speech, row, many)], alike_ones)

    def test_four_to_six_words(self):
        for unlike in (4, 5, 6):
            for speech in chance_meanings(unlike, 12, unlike):
                self.looked_at(speech)
            for number in far_numbers(THINGS[unlike]):
                self.looked_at(speech_of(WORDS[:unlike], number))
            self.looked_at(WORDS[:unlike])
            self.looked_at(WORDS[:unlike] + WORDS[:unlike][::-1])

    def test_four_words_no_others_by_steps(self):
        """Who is deaf to one word hears each half apart: of one first half, all last halves are gone through."""
        speech = ["ant", "bee", "cow", "dog", "bee"]
        heard = heard_by_all_deaf_to_one(speech)
        base = THINGS[3] * 4
        found = []
        begun = number_of(speech) // base
        for ended in range(base):
            row = speech_of(WORDS[:4], begun * base + ended)
            if heard_by_all_deaf_to_one(row) == heard:
                found.append(row)
        self.assertEqual(len(found), 2)
        self.assertEqual([row for row in four(speech) if number_of(row) // base == begun], sorted(found))

    def test_long_ones(self):
        for unlike in range(2, 7):
            for seed in range(4):
                self.looked_at(long_speech(300, unlike, seed))
            for speech in chance_meanings(unlike, 2, 5):
                self.looked_at((speech * 200)[:300])

    def test_other_words(self):
        self.assertEqual(four(["z", "a"]), [["a", "z"], ["a", "z", "a"], ["z", "a"], ["z", "a", "z"]])
        self.looked_at(["abcdefgh", "x", "zzzzzzzz", "y"])

    def test_like_ones_have_one_four(self):
        for speech in chance_meanings(5, 5) + [long_speech(50, 4)]:
            self.assertEqual(four(speech + speech), four(speech))
            self.assertEqual(four(shortest(speech)), four(speech))

    def test_too_few(self):
        for speech in [[], ["ant"], ["ant"] * 2, ["fox"] * 300]:
            kept = list(speech)
            with self.assertRaises(TooFew) as caught:
                four(speech)
            self.assertEqual(caught.exception.least, 2)
            self.assertEqual(speech, kept)


if __name__ == "__main__":
    unittest.main()
