import itertools
import unittest

from tests.helper import WORDS, long_speech, speeches_upto, told_fresh
from twicesaid.errors import BadHouse, NoWord
from twicesaid.houses import House

ROW = ("ant", [1, 0, 2])
LIKE = ("bee", [2, 2, 2])
NO_ROWS = [
    None, True, 0, 7, "ant", "", b"ant", [], {}, set(), object(), House, ["ant", [0]], ["ant", [1, 0, 2]],
    (), ("ant",), ("ant", [0, 0, 0], 0), ("ant", [0, 0, 0], []), ([0, 0, 0], "ant"), {"ant": [0, 0, 0]},
    # What is no word.
    ("", [0, 0, 0]), ("Ant", [0, 0, 0]), ("ninesigns", [0, 0, 0]), ("a b", [0, 0, 0]), (b"ant", [0, 0, 0]),
    (None, [0, 0, 0]), (1, [0, 0, 0]), (["ant"], [0, 0, 0]), (("ant",), [0, 0, 0]), ({}, [0, 0, 0]),
    # What are no rooms.
    ("ant", ()), ("ant", (0, 0, 0)), ("ant", "000"), ("ant", b"\0\0\0"), ("ant", None), ("ant", 3), ("ant", {0: 0}),
    ("ant", {0}), ("ant", range(3)), ("ant", []), ("ant", [0] * 13), ("ant", list(range(13))), ("ant", [0] * 400),
    # What is no room that is there.
    ("ant", [0, 0, 3]), ("ant", [3, 0, 0]), ("ant", [0, -1, 0]), ("ant", [0, 10 ** 59, 0]), ("ant", [0, -10 ** 59, 0]),
    ("ant", [0, True, 0]), ("ant", [0, False, 0]), ("ant", [True] * 3), ("ant", [0, None, 0]), ("ant", [0, "0", 0]),
    ("ant", [0, [0], 0]), ("ant", [0, (), 0]), ("ant", [[], [], []]), ("ant", [0, {}, 0]), ("ant", [1]),
    ("ant", [[[[0]]]]),
]


def turning(many):
    """The rooms to which a word leads that goes on by one room, of so many."""
    return [(room + 1) % many for room in range(many)]


class Made(unittest.TestCase):
    """[3], [4], [60]"""

    def refused(self, rows, at):
        with self.assertRaises(BadHouse) as caught:
            House(rows)
        self.assertEqual(caught.exception.at, at)
        self.assertIs(type(caught.exception.at), int)

    def test_what_is_no_list_or_has_nothing(self):
        for thing in [None, True, False, 0, 1, 10 ** 59, "", "ant", b"", (), (ROW,), ROW, {}, {"ant": [0]}, set(),
                      {0: ROW}, range(3), object(), House, House([ROW]), []]:
            self.refused(thing, 0)

    def test_the_first_thing_that_is_no_row(self):
        for thing in NO_ROWS:
            self.refused([thing], 0)
            self.refused([thing, ROW], 0)
            self.refused([thing, thing], 0)
            self.refused([("fox", [0, 0, 0]), thing], 1)
            self.refused([("fox", [0, 0, 0]), ("eel", [0, 1, 2]), thing, thing], 2)
            self.refused([(word, [0, 0, 0]) for word in WORDS[1:]] + [thing, ROW], 5)

    def test_the_first_of_several(self):
        self.refused([ROW, ROW, None], 1)
        self.refused([ROW, None, ROW], 1)
        self.refused([ROW, LIKE, ("cow", [0]), ("ant", [0, 0, 0])], 2)
        self.refused([None, ROW, ROW], 0)

    def test_a_word_told_ahead(self):
        self.refused([ROW, ROW], 1)
        self.refused([ROW, LIKE, ("ant", [0, 0, 0])], 2)
        self.refused([ROW, LIKE, ("bee", [2, 2, 2])], 2)

    def test_another_number_of_rooms(self):
        for rooms in [[0], [0, 0], [0] * 4, [0] * 12]:
            self.refused([ROW, ("bee", rooms)], 1)
            self.refused([ROW, LIKE, ("cow", rooms), ("dog", rooms)], 2)
            self.refused([("bee", rooms), ROW], 1)

    def test_a_seventh(self):
        rows = [(word, [0, 1]) for word in WORDS]
        self.refused(rows + [("gnu", [0, 1])], 6)
        self.refused(rows + [None], 6)
        self.refused(rows + [("ant", [0, 1])] * 100, 6)
        self.refused(rows[:5] + [None, ("gnu", [0, 1])], 5)

    def test_the_edges(self):
        self.assertEqual(House([("a", [0])]).rows(), [("a", [0])])
        self.assertEqual(House([("eightlet", [0] * 12)]).rooms(), 12)
        rows = [(word, turning(12)) for word in WORDS]
        self.assertEqual(House(rows).rows(), rows)
        self.assertEqual(House(rows).rooms(), 12)
        self.assertEqual(House(rows).words(), WORDS)
        for many in range(1, 13):
            self.assertEqual(House([("ant", turning(many))]).rooms(), many)
            self.refused([("ant", list(range(1, many + 1)))], 0)

    def test_what_is_refused_stays(self):
        rows = [ROW, ["bee", [0, 0, 0]]]
        self.refused(rows, 1)
        self.assertEqual(rows, [("ant", [1, 0, 2]), ["bee", [0, 0, 0]]])


class Told(unittest.TestCase):
    """[3], [4], [60]"""

    def setUp(self):
        self.house = House([("cow", [1, 2, 0]), ("ant", [0, 0, 2]), ("bee", [1, 1, 1])])

    def test_rows_words_and_rooms(self):
        self.assertEqual(told_fresh(self, self.house.rows), [("cow", [1, 2, 0]), ("ant", [0, 0, 2]),
                                                             ("bee", [1, 1, 1])])
        self.assertEqual(told_fresh(self, self.house.words), ["ant", "bee", "cow"])
        self.assertEqual(told_fresh(self, self.house.rooms), 3)
        for row in self.house.rows():
            self.assertIs(type(row), tuple)
            self.assertIs(type(row[1]), list)

    def test_leads(self):
        for room, speech, expected in [(0, [], 0), (2, [], 2), (0, ["cow"], 1), (2, ["cow"], 0), (1, ["ant"], 0),
                                       (2, ["ant"], 2), (0, ["cow", "cow"], 2), (0, ["cow", "ant"], 0),
                                       (0, ["ant", "cow"], 1), (2, ["bee", "cow", "ant"], 2), (1, ["cow"] * 300, 1),
                                       (0, ["cow"] * 299, 2)]:
            self.assertEqual(told_fresh(self, self.house.leads, room, speech), expected, (room, speech))

    def test_deeds(self):
        for speech, expected in [([], (0, 1, 2)), (["cow"], (1, 2, 0)), (["ant"], (0, 0, 2)),
                                 (["ant", "cow"], (1, 1, 0)), (["cow", "ant"], (0, 2, 0)), (["cow"] * 300, (0, 1, 2)),
                                 (["cow", "bee"], (1, 1, 1)), (["bee", "cow"], (2, 2, 2))]:
            told = told_fresh(self, self.house.deed, speech)
            self.assertEqual(told, expected, speech)
            self.assertIs(type(told), tuple)

    def test_word_by_word(self):
        paths = dict(self.house.rows())
        for speech in speeches_upto(["ant", "bee", "cow"], 4) + [long_speech(300, 3)]:
            deed = []
            for room in range(3):
                for word in speech:
                    room = paths[word][room]
                deed.append(room)
            self.assertEqual(self.house.deed(speech), tuple(deed))
            self.assertEqual([self.house.leads(room, speech) for room in range(3)], deed)

    def test_one_room(self):
        house = House([("ant", [0])])
        self.assertEqual(house.deed([]), (0,))
        self.assertEqual(house.deed(["ant"] * 7), (0,))
        self.assertEqual(house.leads(0, ["ant"] * 7), 0)

    def test_words_that_the_house_has_not(self):
        for speech, word in [(["dog"], "dog"), (["ant", "eel", "dog"], "eel"), (["dog", "ant", "eel"], "dog"),
                             (["cow"] * 299 + ["fox"], "fox")]:
            for asked in [self.house.deed, *(lambda row, room=room: self.house.leads(room, row) for room in range(3))]:
                kept = list(speech)
                with self.assertRaises(NoWord) as caught:
                    asked(speech)
                self.assertEqual(caught.exception.word, word)
                self.assertEqual(speech, kept)
        self.assertEqual(self.house.words(), ["ant", "bee", "cow"])

    def test_what_is_changed_behind_changes_nothing(self):
        rooms, rows = [1, 0], []
        rows.append(("ant", rooms))
        house = House(rows)
        rooms[0] = 0
        rooms.append(1)
        rows.append(("bee", [0, 0]))
        told = house.rows()
        told[0][1][0] = 0
        told.append(None)
        house.words().append("bee")
        self.assertEqual(house.rows(), [("ant", [1, 0])])
        self.assertEqual(house.words(), ["ant"])
        self.assertEqual(house.rooms(), 2)
        self.assertEqual(house.deed(["ant"]), (1, 0))

    def test_rows_that_share_a_list(self):
        rooms = [1, 1]
        house = House([("ant", rooms), ("bee", rooms)])
        house.rows()[0][1].append(5)
        self.assertEqual(house.rows(), [("ant", [1, 1]), ("bee", [1, 1])])

    def test_houses_are_apart(self):
        houses = [House([("ant", list(row))]) for row in itertools.product(range(2), repeat=2)]
        self.assertEqual([house.deed(["ant"]) for house in houses], [(0, 0), (0, 1), (1, 0), (1, 1)])


if __name__ == "__main__":
    unittest.main()
