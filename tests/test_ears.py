import copy
import functools
import itertools
import unittest

from tests.helper import WORDS, chance_meanings, long_speech, meanings_upto, near_pairs, open_pairs, speeches_upto
from tests.helper import told_fresh
from twicesaid.ears import ear, is_ear
from twicesaid.fours import four
from twicesaid.houses import House
from twicesaid.shortest import alike, joined, shortest
from twicesaid.speeches import doubled, replaced, single, turned, without, words_of
from twicesaid.strikes import strikes, struck
from twicesaid.tables import breaks, is_table, table

OBJECT = object()
# It keeps the rule: the room tells the word that was said last.
LAST = House([(word, [at] * 6) for at, word in enumerate(WORDS)])
# It keeps the rule: the room tells the word that was said first.
FIRST = House([(word, [at + 1, *range(1, 7)]) for at, word in enumerate(WORDS)])
TURNING = House([("ant", [1, 2, 0]), ("bee", [0, 1, 2])])


@functools.cache
def keeps(rows):
    """Whether the house of these rows keeps the rule."""
    return breaks(House([(word, list(path)) for word, path in rows])) is None


def frozen(house):
    return tuple((word, tuple(path)) for word, path in house.rows())


def shown(told):
    """An ear as what can be compared."""
    return told if told is None else (told[0].rows(), *told[1:])


class Heard(unittest.TestCase):
    """[63]"""

    def looked_at(self, one, other):
        """An ear of two that aren't alike is told, as it must be."""
        told = ear(one, other)
        self.assertIs(type(told), tuple)
        self.assertEqual(len(told), 2)
        house, room = told
        self.assertIsInstance(house, House)
        self.assertIs(type(room), int)
        self.assertIn(room, range(house.rooms()))
        self.assertEqual(house.words(), sorted(set(one + other)))
        self.assertTrue(keeps(frozen(house)), (one, other))
        self.assertNotEqual(house.leads(room, one), house.leads(room, other), (one, other))
        if set(one) != set(other):
            self.assertEqual(house.rooms(), 2)
        self.assertLessEqual(house.rooms(), len(set(one)) + 1 if set(one) == set(other) else 2, (one, other))
        return told

    def test_like_ones_have_none(self):
        self.assertIsNone(ear([], []))
        for speech in [*speeches_upto(WORDS[:3], 4), WORDS * 50, long_speech(300), *chance_meanings(6, 5)]:
            self.assertIsNone(ear(speech, speech))
            self.assertIsNone(ear(speech, shortest(speech)))
            if 0 < len(speech) < 300:
                self.assertIsNone(ear(speech, doubled(speech, len(speech) - 1, 1)))

    def test_silence(self):
        for speech in [["ant"], ["fox"], ["ant", "bee"], WORDS, WORDS * 50, long_speech(300, 5)]:
            self.looked_at([], speech)
            self.looked_at(speech, [])

    def test_all_pairs_of_meanings_of_three_words(self):
        rows = meanings_upto(3)
        self.assertEqual(len(rows), 160)
        for one, other in itertools.combinations(rows, 2):
            self.looked_at(one, other)

    def test_either_order(self):
        rows = meanings_upto(3)
        for one, other in itertools.product(rows[::7], rows[::11]):
            if one != other:
                self.looked_at(one, other)
                self.looked_at(other, one)

    def test_speeches_that_are_not_the_shortest(self):
        for one, other in itertools.product(speeches_upto(WORDS[:3], 4)[::3], speeches_upto(WORDS[1:4], 4)[::5]):
            self.assertEqual(ear(one, other) is None, alike(one, other))
            if not alike(one, other):
                self.looked_at(one, other)

    def test_one_to_six_unlike_words(self):
        for unlike in range(2, 7):
            met = set()
            pairs = near_pairs(unlike, 150, unlike) + open_pairs(unlike, 50, unlike)
            for speech in chance_meanings(unlike, 30, unlike):
                # What all who are deaf to one word hear alike is the hardest to hear apart.
                pairs += itertools.combinations(four(speech), 2)
            for one, other in pairs:
                house, _ = self.looked_at(one, other)
                met.add(house.rooms())
            self.assertEqual(max(met), unlike + 1)
        self.looked_at(["ant"], ["bee"])
        self.looked_at(["ant"], [])

    def test_words_that_only_one_has(self):
        for unlike in range(1, 6):
            for seed in range(20):
                one, other = chance_meanings(unlike, 1, seed)[0], long_speech(40, unlike + 1, seed)
                if set(one) != set(other):
                    self.looked_at(one, other)
        self.looked_at(["ant", "bee", "cow"], ["dog", "eel", "fox"])
        self.looked_at(["ant", "bee", "cow"], ["cow", "bee", "dog"])

    def test_long_ones(self):
        for seed in range(30):
            for unlike in (2, 4, 6):
                one, other = long_speech(300, unlike, seed), long_speech(300, unlike, seed + 77)
                if not alike(one, other):
                    self.looked_at(one, other)
        for one, other in near_pairs(6, 20, 3):
            self.looked_at((one * 9)[:300 - 300 % len(one)], (other * 9)[:300 - 300 % len(other)])

    def test_what_differs_by_one_word_deep_within(self):
        self.looked_at(WORDS, WORDS + ["ant"])
        self.looked_at(WORDS, WORDS[:2] + ["ant"] + WORDS[2:])
        self.looked_at(WORDS[::-1] + ["bee"], WORDS[::-1] + ["cow", "bee"])
        self.assertIsNone(ear(WORDS + WORDS[::-1], WORDS + ["ant"] + WORDS[::-1]))
        self.looked_at(["ant", "bee", "cow"], ["ant", "bee", "ant", "cow"])
        self.looked_at(["cow", "bee", "ant"], ["cow", "ant", "bee", "ant"])

    def test_nothing_handed_in_is_changed(self):
        """[3]"""
        for one, other in [([], []), ([], ["ant"]), *near_pairs(4, 10), *open_pairs(6, 5), (WORDS * 50, WORDS[::-1])]:
            told_fresh(self, lambda u, v: shown(ear(u, v)), one, other)


class IsEar(unittest.TestCase):
    """[3], [63]"""

    def told(self, one, other, thing, expected):
        kept = (list(one), list(other))
        self.assertIs(is_ear(one, other, thing), expected, (one, other, thing))
        self.assertEqual((one, other), kept)

    def test_what_is_told(self):
        for one, other in [*near_pairs(2, 10), *near_pairs(3, 10), *near_pairs(6, 20), *open_pairs(5, 10), ([], WORDS),
                           (WORDS, WORDS[1:]), (long_speech(300), long_speech(300, 6, 5))]:
            self.told(one, other, ear(one, other), True)
            self.told(other, one, ear(one, other), True)
            self.told(shortest(one), other + other, ear(one, other), True)

    def test_a_house_with_more_words(self):
        one, other = ["ant", "bee"], ["bee", "ant"]
        self.told(one, other, (LAST, 0), True)
        self.told(one, other, (LAST, 5), True)
        self.told(one, other, (FIRST, 0), True)
        house, room = ear(one, other)
        still = list(range(house.rooms()))
        self.told(one, other, (House([*house.rows(), ("cow", still)]), room), True)
        self.told(one, other, (House([*house.rows(), *[(word, still) for word in WORDS[2:]]]), room), True)
        self.told([], ["cow"], (LAST, 0), True)
        self.told([], ["cow"], (LAST, 2), False)

    def test_another_order_of_rows(self):
        for one, other in near_pairs(4, 10):
            house, room = ear(one, other)
            self.told(one, other, (House(house.rows()[::-1]), room), True)

    def test_other_shapes(self):
        one, other = ["ant", "bee"], ["bee", "ant"]
        for thing in [[LAST, 0], (LAST,), (LAST, 0, 0), (LAST, 0, None), (), (0, LAST), (LAST, LAST), ((LAST, 0),),
                      {LAST: 0}, {0: LAST, 1: 0}, LAST, [(LAST, 0)], (LAST, (0,)), (LAST, [0])]:
            self.told(one, other, thing, False)

    def test_a_room_that_the_house_has_not(self):
        one, other = ["ant", "bee"], ["bee", "ant"]
        for room in (-1, -6, 6, 7, 12, 10 ** 59, -10 ** 59):
            self.told(one, other, (LAST, room), False)
        self.told(one, other, (FIRST, 6), False)
        self.told(one, other, (FIRST, 7), False)

    def test_other_things_in_the_place_of_the_room(self):
        one, other = ["ant", "bee"], ["bee", "ant"]
        for room in (False, True, "0", "", "ant", None, b"0", [], {}, OBJECT, int, range(1)):
            self.told(one, other, (LAST, room), False)

    def test_other_things_in_the_place_of_the_house(self):
        one, other = ["ant", "bee"], ["bee", "ant"]
        for house in [LAST.rows(), House, None, "house", 0, True, {"ant": [0, 0], "bee": [1, 1]}, OBJECT, [LAST],
                      (LAST, 0), LAST.rows, b""]:
            self.told(one, other, (house, 0), False)

    def test_things_of_other_kinds(self):
        for one, other in [(["ant"], ["bee"]), ([], []), ([], WORDS)]:
            for thing in [None, True, False, 0, 1, 10 ** 59, "", "ear", b"", b"ear", [], {}, set(), range(2), OBJECT,
                          [[[[[]]]]], ((((),),),), {"house": 0}, is_ear, ValueError("x")]:
                self.told(one, other, thing, False)

    def test_a_house_that_breaks_the_rule(self):
        self.assertNotEqual(TURNING.leads(0, ["ant", "bee"]), TURNING.leads(0, ["bee"]))
        self.told(["ant", "bee"], ["bee"], (TURNING, 0), False)
        self.told(["ant", "bee"], ["bee"], ear(["ant", "bee"], ["bee"]), True)
        # It breaks the rule by no word alone, and by a word that neither of the two has.
        house = House([("ant", [1, 1, 2]), ("bee", [0, 2, 2]), ("cow", [0, 1, 2])])
        self.assertEqual(breaks(house), (["bee", "ant"], 0))
        self.assertNotEqual(house.leads(0, ["ant"]), house.leads(0, ["cow"]))
        self.told(["ant"], ["cow"], (house, 0), False)

    def test_a_house_that_lacks_a_word(self):
        house = House([("ant", [0, 0]), ("bee", [1, 1])])
        self.told(["ant"], ["bee"], (house, 0), True)
        self.told(["ant", "cow"], ["bee"], (house, 0), False)
        self.told(["ant"], ["cow", "bee"], (house, 0), False)
        self.told(["ant"], ["bee", "cow"], (house, 0), False)
        self.told(["cow", "ant"], ["cow", "bee"], (house, 0), False)

    def test_a_room_from_which_both_lead_to_one_room(self):
        one, other = ["ant", "bee", "ant"], ["bee", "ant"]
        for room in range(6):
            self.told(one, other, (LAST, room), False)
        self.told(one, other, (FIRST, 0), True)
        for room in range(1, 7):
            self.told(one, other, (FIRST, room), False)

    def test_like_ones_have_none(self):
        for speech in [[], ["ant"], WORDS, long_speech(300)]:
            for room in range(6):
                self.told(speech, shortest(speech), (LAST, room), False)
                self.told(speech, speech, (FIRST, room), False)
            self.told(speech, speech, None, False)

    def test_twelve_rooms_and_six_words(self):
        house = House([(word, [max(room, 2 * at + 1) for room in range(12)]) for at, word in enumerate(WORDS)])
        self.assertIsNone(breaks(house))
        self.told(["ant"], ["fox"], (house, 0), True)
        self.told(["ant"], ["bee"], (house, 11), False)
        self.told(["fox", "ant"], ["fox", "bee"], (house, 0), False)
        self.told(["ant"], ["fox"], (house, 12), False)

    def test_whatever_is_handed_in_stays(self):
        thing = [LAST.rows(), 0]
        kept = copy.deepcopy(thing)
        self.told(["ant"], ["bee"], thing, False)
        self.assertEqual(thing, kept)
        rows = LAST.rows()
        self.told(["ant"], ["bee"], (LAST, 0), True)
        self.assertEqual(LAST.rows(), rows)


class TwoPapers(unittest.TestCase):
    """[5]"""

    def end_of(self, speech):
        left = speech
        for strike in strikes(speech):
            left = struck(left, strike)
        return left

    def just_one_paper(self, one, other):
        """Whether the paper is of strikes."""
        told = ear(one, other)
        same = self.end_of(one) == self.end_of(other)
        self.assertIs(told is None, same, (one, other))
        self.assertIs(alike(one, other), same)
        if not same:
            self.assertTrue(is_ear(one, other, told))
        return same

    def test_short_ones(self):
        rows = speeches_upto(WORDS[:3], 4)[::2]
        same = [self.just_one_paper(one, other) for one, other in itertools.combinations(rows, 2)]
        self.assertIn(True, same)
        self.assertIn(False, same)

    def test_forty_words(self):
        rows = [long_speech(40, unlike, seed) for unlike in (2, 3, 4, 6) for seed in range(3)]
        rows += [shortest(row) for row in rows] + chance_meanings(5, 3)
        rows += [row[:40] for row in chance_meanings(6, 3)]
        for one, other in itertools.combinations(rows, 2):
            self.just_one_paper(one, other)

    def test_doublings_and_undoublings(self):
        for seed in range(40):
            one = long_speech(12, 4, seed)
            other = one
            for step in range(1, 8):
                other = doubled(other, seed * step % (len(other) - 2), 1 + step % 3)
            self.assertTrue(self.just_one_paper(one, other[:40] if alike(one, other[:40]) else other))
            other = single(doubled(other, 3, 4), 3, 4)
            self.assertTrue(alike(one, other))

    def test_like_ones_lead_alike_where_the_rule_is_kept(self):
        houses = [LAST, FIRST] + [ear(one, other)[0] for one, other in near_pairs(6, 20) + open_pairs(6, 5)]
        for house in houses:
            for seed in range(5):
                speech = long_speech(40, 6, seed)
                self.assertEqual(house.deed(speech), house.deed(shortest(speech)))
                self.assertEqual(house.deed(speech), house.deed(doubled(speech, seed, 7)))

    def test_ears_have_tables(self):
        """Their keeping the rule is shown by going through all deeds, too."""
        for one, other in near_pairs(3, 15) + near_pairs(4, 5):
            house = ear(one, other)[0]
            deeds = table(house, most=6000)
            self.assertTrue(is_table(house, deeds))

    def test_what_like_ones_have_in_common(self):
        table_of = {"ant": ["bee", "cow"], "bee": [], "cow": ["ant", "cow", "ant"]}
        for seed in range(20):
            one = long_speech(30, 4, seed)
            other = doubled(shortest(one), 0, 2)
            for more in ([], ["dog"], WORDS[2:], long_speech(9, 6, seed)):
                self.assertIsNone(ear(one + more, other + more))
                self.assertIsNone(ear(more + one, more + other))
                self.assertEqual(joined(one, more), joined(other, more))
            self.assertIsNone(ear(turned(one), turned(other)))
            for word in WORDS:
                self.assertIsNone(ear(without(one, [word]), without(other, [word])))
            self.assertIsNone(ear(replaced(one, table_of), replaced(other, table_of)))

    def test_six_unlike_words_together(self):
        self.assertFalse(self.just_one_paper(WORDS[:3], WORDS[3:]))
        self.assertFalse(self.just_one_paper([], WORDS))
        self.assertEqual(words_of(WORDS[:3] + WORDS[3:]), WORDS)


if __name__ == "__main__":
    unittest.main()
