import unittest

from tests.helper import WORDS, long_speech, speeches_upto, told_fresh
from twicesaid.rows import first_halves, last_halves
from twicesaid.shortest import shortest
from twicesaid.speeches import by_first, by_last, doubled


def firsts_by_definition(speech):
    places = [place for place, word in enumerate(speech) if word not in speech[:place]]
    return [(speech[place], shortest(speech[:place])) for place in places]


def lasts_by_definition(speech):
    places = [place for place, word in enumerate(speech) if word not in speech[place + 1:]]
    return [(speech[place], shortest(speech[place + 1:])) for place in places]


class Rows(unittest.TestCase):
    """[3], [30]"""

    def test_silence(self):
        self.assertEqual(told_fresh(self, first_halves, []), [])
        self.assertEqual(told_fresh(self, last_halves, []), [])

    def test_one_word(self):
        for speech in [["ant"], ["ant"] * 5, ["ant"] * 300]:
            self.assertEqual(told_fresh(self, first_halves, speech), [("ant", [])])
            self.assertEqual(told_fresh(self, last_halves, speech), [("ant", [])])

    def test_several_words(self):
        speech = ["cow", "ant", "cow", "ant", "bee", "ant", "bee", "cow"]
        self.assertEqual(told_fresh(self, first_halves, speech),
                         [("cow", []), ("ant", ["cow"]), ("bee", ["cow", "ant"])])
        self.assertEqual(told_fresh(self, last_halves, speech),
                         [("ant", ["bee", "cow"]), ("bee", ["cow"]), ("cow", [])])

    def test_what_stands_there_is_told_as_its_shortest(self):
        speech = ["ant", "bee", "bee", "ant", "ant", "cow"]
        self.assertEqual(first_halves(speech)[-1], ("cow", ["ant", "bee", "ant"]))
        self.assertEqual(last_halves(speech[::-1])[0], ("cow", ["ant", "bee", "ant"]))

    def test_six_unlike_words(self):
        self.assertEqual(told_fresh(self, first_halves, WORDS), [(word, WORDS[:k]) for k, word in enumerate(WORDS)])
        self.assertEqual(told_fresh(self, last_halves, WORDS), [(word, WORDS[k + 1:]) for k, word in enumerate(WORDS)])
        self.assertEqual(first_halves(WORDS * 50), first_halves(WORDS))
        self.assertEqual(last_halves(WORDS * 50), last_halves(WORDS))

    def test_all_short_speeches(self):
        for speech in speeches_upto(WORDS[:3], 6):
            self.assertEqual(first_halves(speech), firsts_by_definition(speech))
            self.assertEqual(last_halves(speech), lasts_by_definition(speech))

    def test_three_hundred_words(self):
        for seed in range(10):
            # The words come up late, and end early, so that much stands ahead and behind.
            speech = [word for unlike in range(1, 7) for word in long_speech(25, unlike, seed + unlike)]
            speech += [word for unlike in range(1, 7) for word in long_speech(25, 7 - unlike, seed * unlike)]
            self.assertEqual(len(speech), 300)
            firsts = told_fresh(self, first_halves, speech)
            lasts = told_fresh(self, last_halves, speech)
            self.assertEqual(firsts, firsts_by_definition(speech))
            self.assertEqual(lasts, lasts_by_definition(speech))
            self.assertEqual([word for word, _ in firsts], by_first(speech))
            self.assertEqual([word for word, _ in lasts], by_last(speech))

    def test_like_speeches_have_the_same_rows(self):
        for speech in speeches_upto(WORDS[:3], 4) + [long_speech(20, unlike, seed=unlike) for unlike in (4, 5, 6)]:
            like = [shortest(speech)]
            for at in range(len(speech)):
                like += [doubled(speech, at, many) for many in range(1, len(speech) - at + 1)]
            for other in like:
                self.assertEqual(first_halves(other), first_halves(speech))
                self.assertEqual(last_halves(other), last_halves(speech))

    def test_the_kinds_of_what_is_told(self):
        for told in [first_halves(["ant", "bee"]), last_halves(["ant", "bee"])]:
            self.assertIs(type(told), list)
            for entry in told:
                self.assertIs(type(entry), tuple)
                self.assertIs(type(entry[0]), str)
                self.assertIs(type(entry[1]), list)


if __name__ == "__main__":
    unittest.main()
