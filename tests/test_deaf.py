import itertools
import unittest

from tests.helper import THINGS, WORDS, chance_meanings, long_speech, meanings_upto, near_pairs, open_pairs
from tests.helper import speeches_upto, told_fresh
from twicesaid.deaf import alike_to, heard_many, least_listener
from twicesaid.fours import four
from twicesaid.numbers import speech_of
from twicesaid.shortest import alike, shortest

# T(n, i) for n from 0 to 6, i from 1 to 6, worked out by hand [71].
HALVES = [
    [1, 1, 1, 1, 1, 1],
    [1, 1, 1, 1, 1, 1],
    [1, 2, 2, 2, 2, 2],
    [1, 6, 12, 12, 12, 12],
    [1, 24, 288, 576, 576, 576],
    [1, 120, 34560, 829440, 1658880, 1658880],
    [1, 720, 24883200, 171992678400, 8255648563200, 16511297126400],
]


def only(speech, chosen):
    return [word for word in speech if word in chosen]


def heard_unlike(one, other, many):
    """All choices of so many words of both together by which the two are heard unlike."""
    words = sorted(set(one + other))
    return [list(chosen) for chosen in itertools.combinations(words, min(many, len(words)))
            if not alike(only(one, chosen), only(other, chosen))]


def least_by_going_through(one, other):
    for many in range(1, len(set(one + other)) + 1):
        found = heard_unlike(one, other, many)
        if found:
            return (many, min(found))
    return None


def some_pairs():
    """Like ones, those of the same words, and those of unlike words."""
    pairs = [([], []), ([], ["ant"]), (["ant"], []), (["ant"], ["ant", "ant"]), (["ant"], ["bee"]), ([], WORDS),
             (["ant", "bee"], ["bee", "ant"]), (WORDS[:3], WORDS[3:]), (WORDS, WORDS[::-1]), (WORDS, WORDS + ["ant"]),
             (WORDS * 50, WORDS), (WORDS[:5], WORDS[1:]), (long_speech(300), long_speech(300, 6, 2))]
    for unlike in range(2, 7):
        pairs += near_pairs(unlike, 8, unlike) + open_pairs(unlike, 4, unlike)
        for speech in chance_meanings(unlike, 3, unlike):
            pairs += itertools.combinations(four(speech), 2)
            pairs.append((speech, long_speech(30, unlike, 3)))
    return pairs


class AlikeTo(unittest.TestCase):
    """[3], [70]"""

    def test_silence(self):
        for hears in range(1, 7):
            self.assertIs(alike_to([], [], hears), True)
            self.assertIs(alike_to([], ["ant"], hears), False)
            self.assertIs(alike_to(WORDS, [], hears), False)

    def test_some(self):
        one, other = ["ant", "bee", "cow"], ["ant", "cow", "bee"]
        self.assertIs(told_fresh(self, alike_to, one, other, 1), True)
        self.assertIs(told_fresh(self, alike_to, one, other, 2), False)
        # One of the four of the other: unlike to whoever hears all three alone.
        other = [row for row in four(one) if row != one][0]
        for hears, expected in [(1, True), (2, True), (3, False), (4, False), (5, False), (6, False)]:
            self.assertIs(told_fresh(self, alike_to, one, other, hears), expected)

    def test_where_they_have_not_the_same_words(self):
        for one, other in [(["ant"], ["bee"]), (WORDS, WORDS[1:]), (WORDS[:3], WORDS[3:]), (["ant", "bee"], ["ant"])]:
            for hears in range(1, 7):
                self.assertIs(told_fresh(self, alike_to, one, other, hears), False)

    def test_where_the_words_are_fewer(self):
        for one, other in itertools.product(meanings_upto(2), repeat=2):
            for hears in range(2, 7):
                self.assertIs(alike_to(one, other, hears), alike(one, other))
        for one, other in near_pairs(4, 10):
            self.assertIs(alike_to(one, other, 4), False)
            self.assertIs(alike_to(one, other, 6), False)
            self.assertIs(alike_to(one, one + one, 6), True)

    def test_compared_with_all_choices(self):
        for one, other in some_pairs():
            for hears in range(1, 7):
                expected = heard_unlike(one, other, hears) == []
                self.assertIs(told_fresh(self, alike_to, one, other, hears), expected, (one, other, hears))
                self.assertIs(alike_to(other, one, hears), expected)

    def test_the_four_of_n_words_are_alike_to_all_who_hear_fewer(self):
        for unlike in range(2, 7):
            for speech in chance_meanings(unlike, 3, unlike + 9):
                for other in four(speech):
                    for hears in range(1, 7):
                        self.assertIs(alike_to(speech, other, hears), hears < unlike or other == speech)


class HeardMany(unittest.TestCase):
    """[71]"""

    def test_all_numbers(self):
        for many in range(7):
            for hears in range(1, 7):
                told = heard_many(many, hears)
                self.assertIs(type(told), int)
                self.assertEqual(told, HALVES[many][hears - 1] ** 2, (many, hears))

    def test_who_hears_all_tells_all_apart(self):
        for many in range(7):
            for hears in range(max(many, 1), 7):
                self.assertEqual(heard_many(many, hears), THINGS[many])

    def test_who_is_deaf_to_one_word_tells_a_fourth_apart(self):
        for many in range(2, 7):
            self.assertEqual(heard_many(many, many - 1) * 4, THINGS[many])

    def test_going_through_all_meanings_of_none_to_three_words(self):
        for many in range(4):
            rows = [speech_of(WORDS[:many], number) for number in range(THINGS[many])]
            for hears in (1, 2, 3, 6):
                heard = []
                for row in rows:
                    if not any(alike_to(row, other, hears) for other in heard):
                        heard.append(row)
                self.assertEqual(heard_many(many, hears), len(heard), (many, hears))

    def test_four_words_by_what_is_heard(self):
        """Compared with what listeners of one and of two of four words hear of the meanings, as it is heard."""
        for hears in (1, 2):
            heard = {tuple(tuple(shortest(only(row, chosen))) for chosen in itertools.combinations(WORDS[:4], hears))
                     for row in speeches_of_four()}
            self.assertEqual(heard_many(4, hears), len(heard))


def speeches_of_four():
    """Speeches of four words by which each order of first places meets each order of last places."""
    orders = [list(row) for row in itertools.permutations(WORDS[:4])]
    return [begun + ended for begun in orders for ended in orders]


class LeastListener(unittest.TestCase):
    """[3], [73]"""

    def test_like_ones(self):
        for speech in [*speeches_upto(WORDS[:3], 3), WORDS * 50, long_speech(300), *chance_meanings(6, 4)]:
            self.assertIsNone(told_fresh(self, least_listener, speech, shortest(speech)))
            self.assertIsNone(least_listener(speech, speech))

    def test_some(self):
        self.assertEqual(told_fresh(self, least_listener, [], ["bee", "ant"]), (1, ["ant"]))
        self.assertEqual(told_fresh(self, least_listener, ["ant", "bee"], ["bee"]), (1, ["ant"]))
        self.assertEqual(told_fresh(self, least_listener, ["bee", "cow", "ant"], ["bee", "ant"]), (1, ["cow"]))
        self.assertEqual(told_fresh(self, least_listener, ["ant", "bee"], ["bee", "ant"]), (2, ["ant", "bee"]))
        self.assertEqual(told_fresh(self, least_listener, WORDS, WORDS[:4] + ["fox", "eel"]), (2, ["eel", "fox"]))
        self.assertEqual(told_fresh(self, least_listener, WORDS, WORDS[::-1]), (2, ["ant", "bee"]))

    def test_the_kinds_of_what_is_told(self):
        told = least_listener(["ant", "bee"], ["bee", "ant"])
        self.assertIs(type(told), tuple)
        self.assertIs(type(told[0]), int)
        self.assertIs(type(told[1]), list)

    def test_all_meanings_of_three_words(self):
        rows = meanings_upto(3)
        for one, other in itertools.combinations(rows, 2):
            many, words = least_listener(one, other)
            self.assertEqual(len(words), many)
            self.assertIs(many == 1, set(one) != set(other))
            if set(one) == set(other):
                self.assertIs(many == len(set(one)), other in four(one), (one, other))

    def test_compared_with_all_choices(self):
        rows = meanings_upto(3)
        pairs = some_pairs() + list(itertools.product(rows[::9], rows[::13]))
        for one, other in pairs:
            expected = least_by_going_through(one, other)
            self.assertEqual(told_fresh(self, least_listener, one, other), expected, (one, other))
            self.assertEqual(least_listener(other, one), expected)

    def test_all_the_words_just_where_they_are_two_of_one_four(self):
        for unlike in range(2, 7):
            for speech in chance_meanings(unlike, 3, unlike):
                rows = four(speech)
                for one, other in itertools.permutations(rows, 2):
                    self.assertEqual(least_listener(one, other), (unlike, WORDS[:unlike]))
            for one, other in near_pairs(unlike, 10, unlike):
                self.assertIs(least_listener(one, other)[0] == unlike, other in four(one))


if __name__ == "__main__":
    unittest.main()
