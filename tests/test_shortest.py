import functools
import itertools
import unittest

from tests.helper import WORDS, long_speech, speeches_upto, strikes_by_definition, told_fresh
from twicesaid.halves import first_half, last_half
from twicesaid.shortest import alike, joined, laid, most_words, shortest
from twicesaid.speeches import doubled, replaced, single, turned, without, words_of

MOST = [0, 1, 3, 8, 18, 38, 78]


def alike_by_halves(one, other):
    """Whether two speeches are alike, by the words of [31] and without their shortest ones."""
    if words_of(one) != words_of(other):
        return False
    if not one:
        return True
    (p, a), (q, c) = first_half(one), first_half(other)
    (b, s), (d, t) = last_half(one), last_half(other)
    return a == c and b == d and alike_by_halves(p, q) and alike_by_halves(s, t)


@functools.cache
def longest_pattern(many):
    """Some shortest speech of many unlike words, told as numbers, that is as long as can be."""
    if many == 0:
        return ()
    for a, b in itertools.product(range(many), repeat=2):
        if a == b and many > 2:
            continue  # Laid over one another they would share a word.
        for begun in itertools.permutations([k for k in range(many) if k != a]):
            for ended in itertools.permutations([k for k in range(many) if k != b]):
                p = [begun[k] for k in longest_pattern(many - 1)]
                s = [ended[k] for k in longest_pattern(many - 1)]
                made = shortest(p + [a, b] + s)
                if len(made) == MOST[many]:
                    return tuple(made)
    return ()


class Laid(unittest.TestCase):
    """[3], [31]"""

    def test_none_laid_over_another(self):
        self.assertEqual(told_fresh(self, laid, ["ant", "bee"], ["cow"]), ["ant", "bee", "cow"])
        self.assertEqual(told_fresh(self, laid, ["ant", "bee"], ["ant", "cow"]), ["ant", "bee", "ant", "cow"])

    def test_some(self):
        self.assertEqual(told_fresh(self, laid, ["ant", "bee"], ["bee", "ant"]), ["ant", "bee", "ant"])
        self.assertEqual(told_fresh(self, laid, ["dog", "ant", "bee"], ["ant", "bee", "cow"]),
                         ["dog", "ant", "bee", "cow"])

    def test_all(self):
        self.assertEqual(told_fresh(self, laid, ["ant", "bee"], ["ant", "bee"]), ["ant", "bee"])
        self.assertEqual(told_fresh(self, laid, ["cow", "ant", "bee"], ["ant", "bee"]), ["cow", "ant", "bee"])
        self.assertEqual(told_fresh(self, laid, ["ant", "bee"], ["ant", "bee", "cow"]), ["ant", "bee", "cow"])

    def test_empty_lists(self):
        self.assertEqual(told_fresh(self, laid, [], []), [])
        self.assertEqual(told_fresh(self, laid, ["ant"], []), ["ant"])
        self.assertEqual(told_fresh(self, laid, [], ["ant"]), ["ant"])

    def test_the_greatest_of_several(self):
        self.assertEqual(told_fresh(self, laid, ["bee", "ant", "bee", "ant"], ["ant", "bee", "ant", "cow"]),
                         ["bee", "ant", "bee", "ant", "cow"])
        self.assertEqual(told_fresh(self, laid, ["ant"] * 3, ["ant"] * 5), ["ant"] * 5)
        self.assertEqual(told_fresh(self, laid, ["ant"] * 5, ["ant"] * 3), ["ant"] * 5)

    def test_a_hundred_words(self):
        row = long_speech(150)
        self.assertEqual(told_fresh(self, laid, row[:100], row[50:]), row)
        self.assertEqual(laid(["ant"] * 100, ["bee"] * 100), ["ant"] * 100 + ["bee"] * 100)

    def test_short_lists(self):
        rows = speeches_upto(WORDS[:2], 4)
        for one, other in itertools.product(rows, rows):
            fits = [k for k in range(min(len(one), len(other)) + 1) if one[len(one) - k:] == other[:k]]
            self.assertEqual(laid(one, other), one + other[max(fits):])


class Shortest(unittest.TestCase):
    """[3], [31]"""

    def test_silence_and_one_word(self):
        self.assertEqual(told_fresh(self, shortest, []), [])
        self.assertEqual(told_fresh(self, shortest, ["ant"]), ["ant"])
        self.assertEqual(told_fresh(self, shortest, ["ant"] * 300), ["ant"])

    def test_some(self):
        for text, expected in [("a b a b", "a b"), ("a b b a", "a b a"), ("a b c b a b c", "a b c"),
                               ("b a c b c a b c", "b a c a b c"), ("a b c a c b c", "a b c a c b c"),
                               ("a b c b a c b", "a b c a c b"), ("a b a c a b a", "a b a c a b a"),
                               ("a b a c a b c b", "a b a c a b c b"), ("c a b a b c a b a c", "c a b a c")]:
            self.assertEqual(told_fresh(self, shortest, text.split()), expected.split(), text)

    def test_no_strike_is_left(self):
        for many in range(20):
            for unlike in range(1, 7):
                speech = long_speech(many, unlike, seed=many)
                self.assertEqual(strikes_by_definition(shortest(speech)), [])

    def test_six_words_and_three_hundred(self):
        self.assertEqual(told_fresh(self, shortest, WORDS), WORDS)
        self.assertEqual(told_fresh(self, shortest, WORDS * 50), WORDS)
        for seed in range(20):
            for unlike in range(1, 7):
                speech = long_speech(300, unlike, seed)
                told = told_fresh(self, shortest, speech)
                self.assertEqual(words_of(told), words_of(speech))
                self.assertTrue(alike_by_halves(told, speech))
                self.assertLessEqual(len(told), MOST[unlike])
                self.assertEqual(shortest(told), told)

    def test_somewhat_beyond_the_limits(self):
        """Nothing is refused there."""
        speech = long_speech(310) + ["gnu"] + long_speech(20, seed=2)
        self.assertTrue(alike_by_halves(shortest(speech), speech))
        self.assertEqual(shortest(["ant"] * 400), ["ant"])
        self.assertGreater(most_words(7), 78)

    def test_meanings_of_three_words(self):
        """[9] counts them; and the shortest speech of each is the only one of its length."""
        met = {}
        for speech in speeches_upto(WORDS[:3], 8):
            met.setdefault(tuple(shortest(speech)), []).append(speech)
        self.assertEqual(len(met), 160)
        for told, speeches in met.items():
            self.assertEqual(speeches[0], list(told))
            self.assertEqual([row for row in speeches if len(row) <= len(told)], [list(told)])

    def test_most_words(self):
        self.assertEqual([most_words(many) for many in range(7)], MOST)

    def test_some_shortest_speech_has_as_many(self):
        for many in range(7):
            made = [WORDS[k] for k in longest_pattern(many)]
            self.assertEqual(len(made), MOST[many])
            self.assertEqual(shortest(made), made)
            self.assertEqual(words_of(made), WORDS[:many])


class Alike(unittest.TestCase):
    """[3], [5], [31]"""

    def test_all_short_pairs(self):
        rows = speeches_upto(WORDS[:3], 4)
        for one, other in itertools.product(rows, rows):
            self.assertIs(alike(one, other), alike_by_halves(one, other))

    def test_some(self):
        self.assertIs(told_fresh(self, alike, [], []), True)
        self.assertIs(told_fresh(self, alike, ["ant"], []), False)
        self.assertIs(told_fresh(self, alike, ["ant", "bee"], ["bee", "ant"]), False)
        self.assertIs(told_fresh(self, alike, ["ant", "bee"] * 2, ["ant", "bee"]), True)
        self.assertIs(told_fresh(self, alike, long_speech(150), long_speech(150) * 2), True)
        self.assertIs(told_fresh(self, alike, WORDS * 50, WORDS), True)
        self.assertIs(told_fresh(self, alike, WORDS * 50, WORDS + ["ant"]), False)

    def test_just_what_doublings_join_is_alike(self):
        """Of two words, doublings up to six words join all that means the same."""
        rows = speeches_upto(WORDS[:2], 6)
        root = {tuple(row): tuple(row) for row in rows}

        def find(row):
            while root[row] != row:
                row = root[row]
            return row

        for row in rows:
            for at in range(len(row)):
                for many in range(1, min(len(row) - at, 6 - len(row)) + 1):
                    root[find(tuple(doubled(row, at, many)))] = find(tuple(row))
        for one, other in itertools.product(rows, rows):
            self.assertEqual(alike(one, other), find(tuple(one)) == find(tuple(other)))

    def test_doublings_change_no_meaning(self):
        rows = speeches_upto(WORDS[:3], 5) + [long_speech(18, unlike, seed) for unlike in (4, 5, 6) for seed in (1, 2)]
        for row in rows:
            for at in range(len(row)):
                for many in range(1, len(row) - at + 1):
                    longer = doubled(row, at, many)
                    self.assertIs(alike(longer, row), True)
                    self.assertIs(alike(single(longer, at, many), longer), True)

    def like_pairs(self):
        rows = [row for row in speeches_upto(WORDS[:3], 5) if shortest(row) != row]
        rows += [long_speech(40, unlike, seed) for unlike in (4, 5, 6) for seed in range(5)]
        return [(row, shortest(row)) for row in rows]

    def test_like_speeches_are_alike_turned_about(self):
        for one, other in self.like_pairs():
            self.assertIs(alike(turned(one), turned(other)), True)
            self.assertEqual(shortest(turned(one)), turned(other))

    def test_like_speeches_are_alike_with_words_left_out(self):
        for one, other in self.like_pairs():
            for words in [[], ["ant"], ["bee"], ["ant", "cow"], ["dog", "fox"], WORDS]:
                self.assertIs(alike(without(one, words), without(other, words)), True)

    def test_like_speeches_are_alike_with_words_replaced(self):
        tables = [{}, {"ant": []}, {"ant": ["bee"]}, {"ant": ["bee", "cow", "bee"], "bee": ["ant"]},
                  {word: WORDS[k:] for k, word in enumerate(WORDS)}]
        for one, other in self.like_pairs():
            for table in tables:
                self.assertIs(alike(replaced(one, table), replaced(other, table)), True)

    def test_like_speeches_are_alike_with_like_ones_behind_and_ahead(self):
        pairs = self.like_pairs()
        for k in range(0, len(pairs), 3):
            one, other = pairs[k]
            for more, fewer in [pairs[(7 * k + 1) % len(pairs)], pairs[-1 - k], ([], []), (["fox"], ["fox"] * 2)]:
                self.assertIs(alike(one + more, other + fewer), True)
                self.assertIs(alike(more + one, fewer + other), True)
                self.assertEqual(joined(one, more), joined(other, fewer))


class Joined(unittest.TestCase):
    """[3], [31]"""

    def test_some(self):
        self.assertEqual(told_fresh(self, joined, [], []), [])
        self.assertEqual(told_fresh(self, joined, ["ant"], []), ["ant"])
        self.assertEqual(told_fresh(self, joined, [], ["ant", "ant"]), ["ant"])
        self.assertEqual(told_fresh(self, joined, ["ant", "bee"], ["ant", "bee"]), ["ant", "bee"])
        self.assertEqual(told_fresh(self, joined, ["ant", "bee"], ["bee", "cow"]), ["ant", "bee", "cow"])
        self.assertEqual(told_fresh(self, joined, ["ant", "bee"], ["ant"]), ["ant", "bee", "ant"])

    def test_it_is_the_shortest_of_both(self):
        rows = speeches_upto(WORDS[:3], 3)
        for one, other in itertools.product(rows, rows):
            self.assertEqual(joined(one, other), shortest(one + other))

    def test_three_hundred_words_each(self):
        one, other = long_speech(300, 6, 3), long_speech(300, 6, 4)
        told = told_fresh(self, joined, one, other)
        self.assertTrue(alike_by_halves(told, one + other))
        self.assertEqual(told, joined(shortest(one), shortest(other)))


if __name__ == "__main__":
    unittest.main()
