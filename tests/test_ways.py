import functools
import itertools
import unittest

from tests.helper import WORDS, long_speech, speeches_upto, told_fresh
from twicesaid.errors import NoWay
from twicesaid.shortest import alike, joined, shortest
from twicesaid.speeches import turned
from twicesaid.ways import ahead, comes_ahead, comes_on, on

THREE = WORDS[:3]


def meanings_of(words, most):
    """The shortest speeches of all meanings that are met in speeches of at most so many of the words."""
    return [list(row) for row in dict.fromkeys(tuple(shortest(speech)) for speech in speeches_upto(words, most))]


@functools.cache
def said_behind(row, word):
    return tuple(shortest([*row, word]))


@functools.cache
def rows_on(u):
    """All rows of the fewest words of three that, said behind u, come to each meaning that they can come to."""
    found = {u: [()]}
    reached = [u]
    while reached:
        fresh = {}
        for one in reached:
            for word in THREE:
                other = said_behind(one, word)
                if other not in found:
                    fresh.setdefault(other, []).extend([(*row, word) for row in found[one]])
        found.update(fresh)
        reached = list(fresh)
    return found


def fewest_rows(words, most, means):
    """All rows of the fewest words, of at most so many, of which this holds."""
    for many in range(most + 1):
        found = [list(row) for row in itertools.product(words, repeat=many) if means(list(row))]
        if found:
            return found
    return []


class ComesOn(unittest.TestCase):
    """[3], [50]"""

    def test_some(self):
        for u, v, expected in [([], [], True), ([], ["ant"], True), (["ant"], [], False), (["ant"], ["ant"] * 3, True),
                               (["ant"], ["ant", "bee"], True), (["bee"], ["ant", "bee"], False),
                               (["ant", "bee"], ["ant", "bee", "ant"], True),
                               (["ant", "bee", "ant"], ["ant", "bee"], True),
                               (["bee", "ant"], ["ant", "bee"], False), (WORDS, WORDS * 50, True),
                               (WORDS * 50, WORDS[:5], False)]:
            self.assertIs(told_fresh(self, comes_on, u, v), expected, (u, v))

    def test_all_meanings_of_three_words(self):
        """Compared with saying more and more words behind."""
        rows = meanings_of(THREE, 8)
        self.assertEqual(len(rows), 160)
        for u, v in itertools.product(rows, rows):
            expected = tuple(v) in rows_on(tuple(u))
            self.assertIs(comes_on(u, v), expected, (u, v))
            self.assertIs(comes_ahead(turned(u), turned(v)), expected, (u, v))

    def test_long_ones(self):
        for unlike in range(1, 6):
            u, more = long_speech(150, unlike, seed=unlike), long_speech(150, unlike, seed=unlike + 1)
            self.assertIs(told_fresh(self, comes_on, u, u + more), True)
            self.assertIs(comes_on(u, shortest(u + more)), True)
            self.assertIs(comes_on(["gnat", *u], u + more), False)
            self.assertIs(comes_on(u + ["gnat"], u + more), False)


class Told(unittest.TestCase):
    """[3], [4], [6], [50], [51]"""

    def refused(self, asked, u, v):
        kept = (list(u), list(v))
        with self.assertRaises(NoWay):
            asked(u, v)
        self.assertEqual((u, v), kept)

    def test_alike_ones(self):
        for speech in [*speeches_upto(THREE, 4), WORDS, long_speech(150), long_speech(40, 5)]:
            for other in [speech, shortest(speech), speech * 2]:
                self.assertEqual(on(speech, other), [])
                self.assertEqual(ahead(speech, other), [])
        self.assertEqual(told_fresh(self, on, [], []), [])
        self.assertEqual(told_fresh(self, ahead, [], []), [])
        self.assertEqual(told_fresh(self, on, WORDS, WORDS * 50), [])

    def test_nothing_is_told_just_where_they_are_alike(self):
        rows = meanings_of(THREE, 5)
        for u, v in itertools.product(rows, rows):
            if comes_on(u, v):
                self.assertIs(on(u, v) == [], alike(u, v))

    def test_from_silence(self):
        for speech in [*speeches_upto(THREE, 4), WORDS * 50, long_speech(300), long_speech(300, 4)]:
            self.assertEqual(told_fresh(self, on, [], speech), shortest(speech))
            self.assertEqual(told_fresh(self, ahead, [], speech), shortest(speech))

    def test_some(self):
        self.assertEqual(told_fresh(self, on, ["ant"], ["ant", "bee"]), ["bee"])
        self.assertEqual(told_fresh(self, on, ["ant", "bee"], ["ant", "bee", "ant"]), ["ant"])
        self.assertEqual(told_fresh(self, on, ["ant", "bee", "ant"], ["ant", "bee"]), ["bee"])
        self.assertEqual(told_fresh(self, on, WORDS[:2], WORDS), WORDS[2:])
        self.assertEqual(told_fresh(self, ahead, ["bee"], ["ant", "bee"]), ["ant"])
        self.assertEqual(told_fresh(self, ahead, ["bee", "ant"], ["ant", "bee", "ant"]), ["ant"])
        self.assertEqual(told_fresh(self, ahead, WORDS[2:], WORDS), WORDS[:2])
        self.assertEqual(told_fresh(self, ahead, ["cow", "bee"], ["ant", "cow", "bee"]), ["ant"])

    def test_where_it_does_not_come(self):
        for u, v in [(["ant"], []), (["bee"], ["ant", "bee"]), (["ant", "bee"], ["ant"]), (WORDS, WORDS[::-1]),
                     (["ant", "bee"], ["ant", "cow", "bee"]), (["fox"], ["ant"] * 300)]:
            self.refused(on, u, v)
            self.refused(ahead, turned(u), turned(v))
        self.refused(ahead, ["ant"], ["ant", "bee"])
        self.refused(ahead, long_speech(300), long_speech(150, 5))

    def test_all_meanings_of_three_words(self):
        """Compared with all rows of words: there is just one of the fewest words."""
        rows = meanings_of(THREE, 8)
        for u, v in itertools.product(rows, rows):
            found = rows_on(tuple(u)).get(tuple(v), [])
            if found:
                self.assertEqual(found, [tuple(on(u, v))])
                self.assertEqual(ahead(turned(u), turned(v)), list(found[0])[::-1])
            else:
                self.refused(on, u, v)
                self.refused(ahead, turned(u), turned(v))

    def test_short_rows_of_four_words(self):
        """Said ahead and behind, compared with all rows of at most four words."""
        words = WORDS[:4]
        for seed in range(12):
            u, row = long_speech(5, 4, seed), long_speech(4, 4, seed + 50)
            v, w = u + row, row + u
            self.assertEqual(fewest_rows(words, 4, lambda said: alike(u + said, v)), [told_fresh(self, on, u, v)])
            self.assertEqual(fewest_rows(words, 4, lambda said: alike(said + u, w)), [told_fresh(self, ahead, u, w)])

    def test_long_ones(self):
        for unlike in range(2, 7):
            for seed in range(5):
                u, more = long_speech(150, unlike, seed), long_speech(seed * 37, unlike, seed + 9)
                told = told_fresh(self, on, u, u + more)
                self.assertTrue(alike(u + told, u + more))
                whole = shortest(u + more)
                self.assertEqual(whole[len(whole) - len(told):], told)
                for many in range(len(told)):
                    self.assertFalse(alike(u + whole[len(whole) - many:], whole))
                told = told_fresh(self, ahead, u, more + u)
                self.assertTrue(alike(told + u, more + u))
                self.assertEqual(shortest(more + u)[:len(told)], told)

    def test_like_speeches_are_told_the_same(self):
        for seed in range(10):
            u, more = long_speech(60, 5, seed), long_speech(60, 6, seed + 20)
            self.assertEqual(on(u, u + more), on(shortest(u), shortest(u + more)))
            self.assertEqual(ahead(u, more + u), ahead(shortest(u), shortest(more + u)))


class InSteps(unittest.TestCase):
    """[6]"""

    def test_one_comes_on_just_where_both_mean_the_other(self):
        rows = meanings_of(THREE, 4)
        for u, v in itertools.product(rows, rows):
            self.assertIs(comes_on(u, v), joined(u, v) == shortest(v))

    def looked_at(self, u, v, w):
        """From u to v, and from v on to w."""
        first, then, whole = on(u, v), on(v, w), on(u, w)
        self.assertTrue(alike(u + first + then, w))
        self.assertTrue(alike(u + whole, w))
        self.assertLessEqual(len(whole), len(first) + len(then))

    def test_short_ones(self):
        rows = meanings_of(WORDS[:2], 3) + meanings_of(THREE, 3)[-12:]
        for u, v, w in itertools.product(rows, repeat=3):
            if comes_on(u, v) and comes_on(v, w):
                self.looked_at(u, v, w)

    def test_long_ones(self):
        for seed in range(20):
            u, more, most = (long_speech(many, 6, seed + many) for many in (30, 20, 10))
            self.looked_at(u, u + more, u + more + most)

    def test_half_way_the_rest_is_left(self):
        """Behind a beginning of the fewest words the others are the fewest."""
        for seed in range(20):
            u, v = long_speech(20, 3, seed), long_speech(20, 3, seed) + long_speech(30, 6, seed + 7)
            told = on(u, v)
            for many in range(len(told) + 1):
                self.assertEqual(on(u + told[:many], v), told[many:])


if __name__ == "__main__":
    unittest.main()
