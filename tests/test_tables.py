import copy
import itertools
import unittest

from tests.helper import WORDS, long_speech, speeches_upto, told_fresh
from twicesaid.errors import TooMany
from twicesaid.houses import House
from twicesaid.numbers import speech_of
from twicesaid.shortest import joined, shortest
from twicesaid.speeches import doubled
from twicesaid.tables import breaks, is_table, table

OBJECT = object()  # It is equal to no copy of itself.
SHUT = House([("bee", [1, 1]), ("ant", [0, 0])])
CHAIN = House([(word, [max(room, 2 * at) for room in range(12)]) for at, word in enumerate(WORDS)])
TURNING = House([("ant", [1, 2, 0])])
# Its deeds are all 12 ** 12 ways to lead from twelve rooms to twelve rooms.
HUGE = House([("ant", [*range(1, 12), 0]), ("bee", [1, 0, *range(2, 12)]), ("cow", [0, 0, *range(2, 12)])])


def house_of(*deeds):
    """A house whose words do these deeds."""
    return House([(word, list(deed)) for word, deed in zip(WORDS, deeds)])


def small_houses():
    """All of one and two words and up to three rooms, and some of more."""
    for many in (1, 2, 3):
        deeds = list(itertools.product(range(many), repeat=many))
        for deed, other in itertools.product(deeds, deeds):
            yield house_of(deed, other)
            yield House([("bee", list(deed)), ("ant", list(other))])
        for deed in deeds:
            yield house_of(deed)
    still = [deed for deed in itertools.product(range(4), repeat=4) if all(deed[deed[k]] == deed[k] for k in range(4))]
    for seed in range(150):
        yield house_of(*[still[(seed * 7 + k * (seed + 11)) % len(still)] for k in range(3)])


def meant_house(words):
    """A house whose rooms are the meanings of the words, silence first; it keeps the rule."""
    rooms = [()]
    for room in rooms:
        rooms += [row for row in dict.fromkeys(tuple(joined(list(room), [word])) for word in words) if row not in rooms]
    return House([(word, [rooms.index(tuple(joined(list(room), [word]))) for room in rooms]) for word in words])


def keeping_houses():
    """Houses that keep the rule, as is plain from how they are made."""
    every = list(itertools.product([0, 1], repeat=3))
    return [
        House([("ant", [0])]), SHUT, CHAIN, meant_house(["ant"]), meant_house(["ant", "bee"]),
        House([(word, [at] * 6) for at, word in enumerate(WORDS)]),
        House([(word, list(range(12))) for word in WORDS]),
        House([(word, [every.index((*row[:k], 1, *row[k + 1:])) for row in every]) for k, word in enumerate(WORDS[:3])]),
    ]


def deeds_by_words(house):
    """All deeds, each with the first list of the fewest words that does it, and the lists in that order."""
    found = {}
    rows = [[]]
    while rows:
        fresh = []
        for row in rows:
            for word in house.words():
                deed = house.deed([*row, word])
                if deed not in found:
                    found[deed] = [*row, word]
                    fresh.append([*row, word])
        rows = fresh
    return found


def breaks_by_going_through(house):
    """What breaks is told, by going through all deeds: those of small houses."""
    for row in deeds_by_words(house).values():
        once, twice = house.deed(row), house.deed(row + row)
        if once != twice:
            return (row, min(room for room, end in enumerate(once) if twice[room] != end))
    return None


def breaks_by_lists(house, most):
    """Likewise, by all lists of at most so many words."""
    for row in speeches_upto(house.words(), most):
        for room in range(house.rooms()):
            if house.leads(room, row) != house.leads(room, row + row):
                return (row, room)
    return None


class Breaks(unittest.TestCase):
    """[3], [5], [61]"""

    def told(self, house):
        kept = house.rows()
        told = told_fresh(self, lambda: breaks(house))
        self.assertEqual(house.rows(), kept)
        return told

    def test_houses_that_keep_the_rule(self):
        for house in keeping_houses():
            self.assertIsNone(self.told(house))

    def test_some_that_break_it(self):
        self.assertEqual(self.told(TURNING), (["ant"], 0))
        self.assertEqual(self.told(House([("ant", [0, 2, 1])])), (["ant"], 1))
        self.assertEqual(self.told(House([("ant", [0, 0, 1])])), (["ant"], 2))
        self.assertEqual(self.told(House([("bee", [0, 1, 1]), ("ant", [0, 0, 1])])), (["ant"], 2))
        self.assertEqual(self.told(HUGE), (["ant"], 0))

    def test_the_first_of_the_fewest_words(self):
        house = House([("bee", [1, 0]), ("ant", [1, 0])])
        self.assertEqual(self.told(house), (["ant"], 0))
        house = House([("cow", [1, 1, 2]), ("bee", [0, 2, 2]), ("ant", [0, 1, 2])])
        self.assertEqual(self.told(house), (["bee", "cow"], 0))

    def test_small_houses(self):
        """Compared with going through all deeds; and what is None is so of houses that have a table."""
        kept = 0
        for house in small_houses():
            expected = breaks_by_going_through(house)
            self.assertEqual(breaks(house), expected, house.rows())
            kept += expected is None
        self.assertGreater(kept, 100)

    def test_all_short_lists(self):
        for house in list(small_houses())[::25]:
            told = breaks(house)
            if told is None or len(told[0]) <= 5:
                self.assertEqual(told, breaks_by_lists(house, 5))

    def test_a_break_by_four_words_alone(self):
        rows = [("dog", [2, 1, 2, 1, 2, 5]), ("cow", [5, 1, 2, 3, 4, 5]), ("bee", [0, 1, 2, 4, 4, 5]),
                ("ant", [0, 1, 0, 3, 3, 0])]
        expected = (["ant", "bee", "cow", "dog"], 3)
        self.assertEqual(self.told(House(rows)), expected)
        self.assertEqual(breaks_by_lists(House(rows), 4), expected)
        # The same with six more rooms that nothing leaves, and two more words that lead nowhere else.
        rows = [(word, path + list(range(6, 12))) for word, path in rows] + [(word, list(range(12))) for word in WORDS[4:]]
        self.assertEqual(self.told(House(rows)), expected)
        # Without one of the four words the rule is kept.
        for at in range(4):
            self.assertIsNone(self.told(House(rows[:at] + rows[at + 1:])))

    def test_twelve_rooms_and_six_words(self):
        rows = [(word, [at + 1 if room == at else room for room in range(12)]) for at, word in enumerate(WORDS)]
        self.assertEqual(self.told(House(rows)), (["bee", "ant"], 0))
        self.assertEqual(breaks_by_lists(House(rows), 2), (["bee", "ant"], 0))

    def test_the_kinds_of_what_is_told(self):
        told = breaks(TURNING)
        self.assertIs(type(told), tuple)
        self.assertIs(type(told[0]), list)
        self.assertIs(type(told[1]), int)

    def test_like_speeches_lead_alike_where_the_rule_is_kept(self):
        houses = keeping_houses() + [house for house in list(small_houses())[::10] if breaks(house) is None]
        for house in houses:
            words = house.words()
            rows = speeches_upto(words[:3], 4) + [[words[WORDS.index(word)] for word in long_speech(40, len(words), k)]
                                                  for k in range(5)]
            for row in rows[1:]:
                self.assertEqual(house.deed(row), house.deed(shortest(row)))
                self.assertEqual(house.deed(row), house.deed(doubled(row, len(row) // 2, 1)))

    def test_unlike_meanings_of_two_words_are_led_apart(self):
        house = meant_house(["ant", "bee"])
        self.assertEqual(house.rooms(), 7)
        self.assertEqual(len({house.leads(0, speech_of(["ant", "bee"], number)) for number in range(4)}), 4)


class Table(unittest.TestCase):
    """[3], [4], [62]"""

    def told(self, house, **more):
        kept = house.rows()
        told = told_fresh(self, lambda: table(house, **more))
        self.assertEqual(house.rows(), kept)
        return told

    def test_some(self):
        self.assertEqual(self.told(House([("ant", [0])])), [(0,)])
        self.assertEqual(self.told(SHUT), [(0, 0), (1, 1)])
        self.assertEqual(self.told(TURNING), [(1, 2, 0), (2, 0, 1), (0, 1, 2)])
        self.assertEqual(self.told(House([("bee", [0, 1]), ("ant", [1, 0])])), [(1, 0), (0, 1)])
        self.assertEqual(self.told(House([("bee", [1, 1, 2]), ("ant", [0, 2, 2])])),
                         [(0, 2, 2), (1, 1, 2), (1, 2, 2), (2, 2, 2)])

    def test_the_empty_list_is_no_deed_of_its_own(self):
        self.assertNotIn((0, 1), self.told(SHUT))

    def test_as_they_are_first_met(self):
        for house in list(small_houses())[::4]:
            self.assertEqual(table(house), list(deeds_by_words(house)))

    def test_the_kinds_of_what_is_told(self):
        told = table(SHUT)
        self.assertIs(type(told), list)
        self.assertTrue(all(type(deed) is tuple for deed in told))

    def refused(self, asked, most):
        with self.assertRaises(TooMany) as caught:
            asked()
        self.assertEqual(caught.exception.most, most)

    def test_more_than_most(self):
        for house in [SHUT, TURNING, CHAIN, meant_house(["ant", "bee"])]:
            many = len(table(house))
            for most in range(1, many):
                self.refused(lambda: table(house, most=most), most)
            for most in (many, many + 1, 400):
                self.assertEqual(self.told(house, most=most), table(house))

    def test_more_than_most_by_the_words_alone(self):
        self.refused(lambda: table(SHUT, most=1), 1)
        same = House([(word, [0, 0]) for word in WORDS])
        self.assertEqual(self.told(same, most=1), [(0, 0)])

    def test_most_left_out(self):
        self.refused(lambda: table(HUGE), 400)
        self.refused(lambda: table(HUGE, most=400), 400)
        self.refused(lambda: table(HUGE, most=1), 1)
        self.assertEqual(HUGE.rooms(), 12)

    def test_up_to_four_hundred(self):
        # Turned about by twelve rooms and mirrored: 24 deeds; of four rooms with one merged: all 256.
        mirrored = House([("ant", [*range(1, 12), 0]), ("bee", list(range(11, -1, -1)))])
        self.assertEqual(len(self.told(mirrored)), 24)
        merged = House([("ant", [1, 2, 3, 0]), ("bee", [1, 0, 2, 3]), ("cow", [0, 0, 2, 3])])
        self.assertEqual(sorted(self.told(merged)), list(itertools.product(range(4), repeat=4)))
        self.assertEqual(len(self.told(merged, most=256)), 256)
        self.refused(lambda: table(merged, most=255), 255)
        # Five rooms turned about and doubled, 20 deeds, beside five more: 400; and with a word that leads to a sink, 401.
        turned, doubled_up = [1, 2, 3, 4, 0], [0, 2, 4, 1, 3]
        rows = [("ant", [*turned, *range(5, 11)]), ("bee", [*doubled_up, *range(5, 11)]),
                ("cow", [*range(5), *[5 + room for room in turned], 10]),
                ("dog", [*range(5), *[5 + room for room in doubled_up], 10])]
        self.assertEqual(len(self.told(House(rows))), 400)
        sunk = House(rows + [("eel", [10] * 11)])
        self.refused(lambda: table(sunk), 400)
        self.assertEqual(len(self.told(sunk, most=401)), 401)

    def test_it_is_handed_in_by_its_name(self):
        with self.assertRaises(TypeError):
            table(SHUT, 400)


class IsTable(unittest.TestCase):
    """[3], [62]"""

    def told(self, house, thing, expected):
        kept, rows = copy.deepcopy(thing), house.rows()
        self.assertIs(is_table(house, thing), expected, (house.rows(), thing))
        self.assertEqual(house.rows(), rows)
        if isinstance(thing, (list, tuple, dict)) and OBJECT not in thing:
            self.assertEqual(thing, kept)

    def test_the_table_itself(self):
        for house in keeping_houses():
            self.told(house, table(house), True)

    def test_in_another_order(self):
        for house in keeping_houses():
            told = table(house)
            self.told(house, told[::-1], True)
            self.told(house, sorted(told), True)
            self.told(house, told[1:] + told[:1], True)

    def test_houses_that_break_the_rule_have_none(self):
        for house in small_houses():
            told = table(house)
            self.assertIs(is_table(house, told), breaks(house) is None)

    def test_with_more_deeds_that_keep_it(self):
        for house in keeping_houses():
            same = tuple(range(house.rooms()))
            told = table(house)
            self.told(house, told if same in told else told + [same], True)
            self.told(house, told if same in told else [same] + told, True)
        same = House([("ant", [0, 1, 2])])
        self.told(same, [(0, 1, 2), (0, 0, 2), (2, 2, 2)], True)
        self.told(same, [(0, 1, 2), (0, 0, 1)], False)
        self.told(same, [(0, 1, 2), (1, 0, 2)], False)

    def test_with_more_deeds_that_lack_others(self):
        house = House([("ant", [0, 0, 2]), ("bee", [0, 1, 1])])
        self.assertEqual(table(house), [(0, 0, 2), (0, 1, 1), (0, 0, 1), (0, 0, 0)])
        self.told(house, table(house), False)
        house = House([("ant", [0, 0, 2])])
        self.told(house, [(0, 0, 2)], True)
        self.told(house, [(0, 0, 2), (2, 2, 2)], True)
        self.told(house, [(0, 0, 2), (1, 1, 1)], False)
        self.told(house, [(0, 0, 2), (1, 1, 1), (0, 0, 0)], True)

    def test_a_deed_fewer(self):
        for house in keeping_houses():
            told = table(house)
            for at in range(len(told)):
                self.told(house, told[:at] + told[at + 1:], False)
            self.told(house, [], False)

    def test_one_twice(self):
        for house in keeping_houses():
            told = table(house)
            for at in range(len(told)):
                self.told(house, told + [told[at]], False)
                self.told(house, told[:at] + told[at:at + 1] + told[at:], False)

    def test_one_spoilt(self):
        for house in keeping_houses():
            told = table(house)
            deed = told[-1]
            for spoilt in [list(deed), deed + (0,), deed[:-1], (), deed + deed, (house.rooms(), *deed[1:]),
                           (-1, *deed[1:]), (*deed[:-1], 10 ** 59), (None, *deed[1:]), ("0", *deed[1:]),
                           ([0], *deed[1:]), ((0,), *deed[1:]), (*deed[:-1], [0]), ({}, *deed[1:]), None, 0, "", "0",
                           {}, set(), [], OBJECT, str(deed), {0: deed}, (deed,), [deed], b"\0" * len(deed)]:
                self.told(house, told[:-1] + [spoilt], False)
                self.told(house, told + [spoilt], False)
                self.told(house, [spoilt] + told, False)

    def test_truths_in_the_place_of_numbers(self):
        for house in keeping_houses():
            for at, deed in enumerate(table(house)):
                for room in range(house.rooms()):
                    if deed[room] <= 1:
                        thing = table(house)
                        thing[at] = (*deed[:room], bool(deed[room]), *deed[room + 1:])
                        self.told(house, thing, False)

    def test_another_room_in_a_deed(self):
        for house in [SHUT, CHAIN, meant_house(["ant", "bee"])]:
            for at, deed in enumerate(table(house)):
                for room in range(house.rooms()):
                    thing = table(house)
                    thing[at] = (*deed[:room], (deed[room] + 1) % house.rooms(), *deed[room + 1:])
                    self.told(house, thing, False)

    def test_things_of_other_kinds(self):
        for house in [SHUT, TURNING, CHAIN, HUGE]:
            for thing in [None, True, False, 0, 1, 10 ** 59, "", "table", b"", (), {}, set(), {"ant": (0, 0)}, range(2),
                          OBJECT, House, house, [[]], [[[[[0]]]]], [()], [None], [0], ["ant"], [(0, 0), None]]:
                self.told(house, thing, False)
        for house in keeping_houses():
            self.told(house, tuple(table(house)), False)
            self.told(house, dict.fromkeys(table(house)), False)
            self.told(house, set(table(house)), False)
            self.told(house, [table(house)], False)
            self.told(house, (table(house), ), False)

    def test_the_table_of_another_house(self):
        for house, other in itertools.permutations([SHUT, CHAIN, meant_house(["ant", "bee"]), TURNING], 2):
            self.told(house, table(other), False)

    def test_many_deeds(self):
        """Of a house whose word leads nowhere else, whatever deeds, done twice, are themselves show it."""
        same = House([("ant", list(range(12)))])
        many = [tuple(range(12))] + [tuple(one if room == other else room for room in range(12))
                                     for one, other in itertools.product(range(12), repeat=2) if one != other]
        many += [(room,) * 12 for room in range(12)]
        self.told(same, many, True)
        self.told(same, many + [many[70]], False)
        self.told(same, many + [(1, 0, *range(2, 12))], False)
        self.told(HUGE, many, False)


if __name__ == "__main__":
    unittest.main()
