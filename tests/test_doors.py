import functools
import itertools
import unittest

from tests.helper import WORDS, chance_meanings, long_speech, meanings_upto, near_pairs, open_pairs, speeches_upto
from tests.helper import told_fresh
from twicesaid.doors import door
from twicesaid.ears import is_ear
from twicesaid.fours import four
from twicesaid.houses import House
from twicesaid.shortest import alike, joined, shortest
from twicesaid.speeches import words_of
from twicesaid.tables import breaks
from twicesaid.ways import comes_on


def shown(told):
    """What a door tells as what can be compared."""
    return (told[0], told[1].rows(), told[2]) if told[0] == "shut" else told


@functools.cache
def said_behind(row, word):
    return tuple(shortest([*row, word]))


@functools.cache
def first_rows():
    """By going through all pairs of meanings of three words: the first list of the fewest words behind which they are
    alike, for all pairs that can become so."""
    words = WORDS[:3]
    rows = [tuple(row) for row in meanings_upto(3)]
    found = {(row, row): () for row in rows}
    fresh = True
    while fresh:
        # Words are tried in their order, and a row of many words is met only behind all rows of fewer.
        fresh = {}
        for pair in itertools.product(rows, rows):
            if pair not in found:
                for word in words:
                    then = (said_behind(pair[0], word), said_behind(pair[1], word))
                    if then in found:
                        fresh.setdefault(pair, []).append((word, *found[then]))
        fresh = {pair: min(told) for pair, told in fresh.items()}
        found.update(fresh)
    return found


def first_by_lists(one, other, most):
    """The first list of the fewest words, of at most so many, behind which both are alike."""
    for many in range(most + 1):
        for row in itertools.product(sorted(set(one + other)), repeat=many):
            if joined(one, list(row)) == joined(other, list(row)):
                return list(row)
    return None


@functools.cache
def keeps(rows):
    return breaks(House([(word, list(path)) for word, path in rows])) is None


class Doors(unittest.TestCase):
    """[3], [7], [80]"""

    def looked_at(self, one, other):
        """What is told, having looked that it is as it must be."""
        told = door(one, other)
        self.assertIs(type(told), tuple)
        if alike(one, other):
            self.assertEqual(told, ("alike",))
        elif comes_on(one, other) or comes_on(other, one):
            self.open_one(one, other, told)
        else:
            self.shut_one(one, other, told)
        return told

    def open_one(self, one, other, told):
        self.assertEqual((told[0], len(told)), ("open", 2))
        row = told[1]
        self.assertIs(type(row), list)
        self.assertLessEqual(set(row), set(one + other))
        self.assertTrue(alike(one + row, other + row), (one, other, row))
        self.assertLessEqual(len(row), 100)

    def shut_one(self, one, other, told):
        self.assertEqual((told[0], len(told)), ("shut", 3))
        house, room = told[1], told[2]
        self.assertIsInstance(house, House)
        self.assertIs(type(room), int)
        self.assertIn(room, range(house.rooms()))
        self.assertLessEqual(house.rooms(), 8)
        self.assertEqual(house.words(), sorted(set(one + other)))
        self.assertTrue(keeps(tuple((word, tuple(path)) for word, path in house.rows())))
        ends = [house.leads(room, one), house.leads(room, other)]
        self.assertNotEqual(ends[0], ends[1])
        for end in ends:
            for word in house.words():
                self.assertEqual(house.leads(end, [word]), end)

    def test_alike(self):
        for speech in [[], ["ant"], *speeches_upto(WORDS[:3], 3), WORDS * 50, long_speech(300), *chance_meanings(6, 4)]:
            self.assertEqual(told_fresh(self, door, speech, shortest(speech)), ("alike",))
            self.assertEqual(door(speech, speech), ("alike",))

    def test_silence_is_open_to_all(self):
        for speech in [["ant"], ["ant", "ant"], WORDS, WORDS * 50, long_speech(300), *chance_meanings(6, 6)]:
            self.assertEqual(self.looked_at([], speech)[0], "open")
            self.assertEqual(self.looked_at(speech, [])[0], "open")

    def test_some(self):
        self.assertEqual(told_fresh(self, door, ["ant", "bee"], ["ant", "bee", "ant"]), ("open", ["ant"]))
        self.assertEqual(told_fresh(self, door, ["ant", "bee", "ant"], ["ant", "bee"]), ("open", ["ant"]))
        self.assertEqual(told_fresh(self, door, ["cow", "bee"], ["cow", "bee", "cow"]), ("open", ["bee"]))
        self.assertEqual(self.looked_at(["ant", "bee"], ["bee", "ant"])[0], "shut")
        self.assertEqual(self.looked_at(["ant"], ["ant", "bee"])[0], "open")
        self.assertEqual(self.looked_at(["ant"], ["bee", "ant"])[0], "shut")
        self.assertEqual(self.looked_at(["ant"], ["bee"])[0], "shut")

    def test_all_pairs_of_meanings_of_three_words(self):
        """Compared with going through all that can be said behind both."""
        rows, expected = meanings_upto(3), first_rows()
        met = set()
        for one, other in itertools.product(rows, rows):
            row = expected.get((tuple(one), tuple(other)))
            if row is None:
                told = door(one, other)
                self.assertEqual(told[0], "shut", (one, other))
            elif one == other:
                self.assertEqual(door(one, other), ("alike",))
            elif set(one) == set(other):
                self.assertEqual(door(one, other), ("open", list(row)))
                met.add(len(row))
            else:
                self.open_one(one, other, door(one, other))
        self.assertEqual(met, {1, 2})

    def test_all_shut_pairs_of_meanings_of_three_words(self):
        for one, other in itertools.combinations(meanings_upto(3)[::2], 2):
            self.looked_at(one, other)

    def test_speeches_that_are_not_the_shortest(self):
        rows = speeches_upto(WORDS[:3], 4)[::3]
        expected = first_rows()
        for one, other in itertools.product(rows, rows[::3]):
            told = self.looked_at(one, other)
            row = expected.get((tuple(shortest(one)), tuple(shortest(other))))
            if told[0] == "open" and set(one) == set(other):
                self.assertEqual(told, ("open", list(row)))

    def test_the_first_list_of_the_fewest_words_of_four(self):
        met = set()
        for seed in range(4):
            for one, other in open_pairs(4, 30, seed):
                expected = first_by_lists(one, other, 4)
                self.assertEqual(self.looked_at(one, other), ("open", expected))
                self.assertEqual(door(other, one), ("open", expected))
                met.add(len(expected))
        self.assertGreaterEqual(max(met), 3)

    def test_the_first_list_where_several_are_as_few(self):
        met = 0
        begun = ["cow", "bee", "ant"]
        pairs = [(begun + ["bee"], begun), (begun + ["bee", "cow"], begun)]
        for one, other in pairs + open_pairs(4, 40, 8):
            row = self.looked_at(one, other)[1]
            as_few = [list(line) for line in itertools.product(words_of(one), repeat=len(row))
                      if alike(one + list(line), other + list(line))]
            self.assertEqual(row, min(as_few))
            met += len(as_few) > 1
        self.assertGreater(met, 10)

    def test_two_of_one_four(self):
        for unlike in range(2, 7):
            for speech in chance_meanings(unlike, 4, unlike):
                told = [self.looked_at(one, other)[0] for one, other in itertools.combinations(four(speech), 2)]
                # Two of them each have the same first half.
                self.assertEqual(sorted(told), ["open"] * 2 + ["shut"] * 4)

    def test_up_to_six_unlike_words(self):
        for unlike in range(2, 7):
            met = set()
            for one, other in near_pairs(unlike, 60, unlike) + open_pairs(unlike, 30, unlike):
                met.add(self.looked_at(one, other)[0])
                self.assertEqual(self.looked_at(other, one)[0], door(one, other)[0])
            self.assertEqual(met, {"open", "shut"})

    def test_words_that_only_one_has(self):
        for unlike in range(1, 6):
            for seed in range(15):
                u = chance_meanings(unlike, 1, seed)[0]
                for v in (u + long_speech(20, 6, seed), [WORDS[unlike]] + u, u + WORDS[unlike:], WORDS[unlike:]):
                    self.looked_at(u, v)
                    self.looked_at(v, u)
        self.assertEqual(self.looked_at(WORDS[:3], WORDS[3:])[0], "shut")
        self.assertEqual(self.looked_at(WORDS[:3], WORDS)[0], "open")

    def test_long_ones(self):
        for seed in range(10):
            for unlike in (2, 4, 6):
                u = long_speech(150, unlike, seed)
                self.looked_at(u, u + long_speech(150, unlike, seed + 9))
                self.looked_at(long_speech(300, unlike, seed), long_speech(300, unlike, seed + 31))
        for one, other in near_pairs(6, 5) + open_pairs(6, 5):
            self.looked_at((one * 200)[:300], (other * 200)[:300])

    def test_what_is_told_is_the_askers_own(self):
        pairs = [([], []), ([], WORDS), (["ant"], ["bee"]), (WORDS, WORDS + ["ant"]), *near_pairs(4, 6),
                 *open_pairs(3, 6)]
        for one, other in pairs:
            told_fresh(self, lambda u, v: shown(door(u, v)), one, other)


class GoingOn(unittest.TestCase):
    """[7]"""

    def test_open_just_where_one_comes_on_of_the_other(self):
        for unlike in range(2, 7):
            for one, other in near_pairs(unlike, 30, 4) + open_pairs(unlike, 30, 4):
                self.assertIs(door(one, other)[0] == "open", comes_on(one, other) or comes_on(other, one))

    def test_alike_they_stay(self):
        for one, other in open_pairs(5, 20) + open_pairs(3, 20):
            row = door(one, other)[1]
            for more in ([], ["ant"], WORDS, long_speech(20)):
                self.assertEqual(door(one + row + more, other + row + more), ("alike",))

    def test_shut_they_stay(self):
        for one, other in near_pairs(5, 20) + near_pairs(3, 20):
            told = door(one, other)
            if told[0] == "shut":
                for more in (["ant"], WORDS, long_speech(40), other, one):
                    self.assertEqual(door(one + more, other + more)[0], "shut")
                more = [word for word in long_speech(40) if word in told[1].words()]
                for said in (one, other):
                    self.assertEqual(told[1].leads(told[2], said + more), told[1].leads(told[2], said))
                self.assertTrue(is_ear(one + more, other + more, told[1:]))

    def test_a_word_that_neither_has_parts_them(self):
        for unlike in range(1, 6):
            pairs = open_pairs(unlike, 15, unlike) + near_pairs(unlike, 15, unlike) + [([], WORDS[:unlike])]
            for one, other in pairs:
                word = WORDS[unlike]
                told = door(one + [word], other + [word])
                self.assertEqual(told[0], "shut", (one, other))
                self.assertTrue(is_ear(one + [word], other + [word], told[1:]))
                self.assertEqual(told[1].words(), words_of(one + other + [word]))

    def test_a_word_that_neither_has_leaves_like_ones_alike(self):
        for speech in chance_meanings(5, 5):
            self.assertEqual(door(speech + ["fox"], speech + speech + ["fox"]), ("alike",))


if __name__ == "__main__":
    unittest.main()
