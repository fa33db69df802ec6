"""What the document promises over the whole program [5] to [9], each gone through in several modules."""

import inspect
import itertools
import unittest

import twicesaid.begun
import twicesaid.books
import twicesaid.deaf
import twicesaid.desk
import twicesaid.doors
import twicesaid.ears
import twicesaid.fours
import twicesaid.halves
import twicesaid.houses
import twicesaid.kinds
import twicesaid.numbers
import twicesaid.rows
import twicesaid.shares
import twicesaid.shortest
import twicesaid.shown
import twicesaid.speeches
import twicesaid.strikes
import twicesaid.tables
import twicesaid.talks
import twicesaid.texts
import twicesaid.ways
from tests.helper import THINGS, WORDS, chance_meanings, chance_numbers, long_speech, meanings_upto, near_pairs
from tests.helper import open_pairs
from twicesaid.begun import begun_number
from twicesaid.books import Book
from twicesaid.deaf import alike_to, heard_many, least_listener
from twicesaid.desk import Desk
from twicesaid.doors import door
from twicesaid.ears import ear, is_ear
from twicesaid.errors import NoWay
from twicesaid.fours import four
from twicesaid.houses import House
from twicesaid.numbers import all_meanings, meanings, number_of, speech_of
from twicesaid.shares import common_firsts, early_many
from twicesaid.shortest import alike, joined, shortest
from twicesaid.speeches import doubled, replaced, single, turned, without, words_of
from twicesaid.strikes import strikes, struck
from twicesaid.tables import breaks, is_table, table
from twicesaid.talks import Talk
from twicesaid.texts import read_book, read_house, read_speech, show_book, show_house, show_speech
from twicesaid.ways import comes_on, on


def struck_out(speech):
    for strike in strikes(speech):
        speech = struck(speech, strike)
    return speech


class Whole(unittest.TestCase):
    def papers(self, one, other):
        """By strikes to one and the same speech, or by an ear: just one of them [5]."""
        told = ear(one, other)
        self.assertIs(told is None, struck_out(one) == struck_out(other))
        self.assertIs(told is None, number_of(one) == number_of(other) and words_of(one) == words_of(other))
        self.assertIs(told is None, door(one, other) == ("alike",))
        self.assertIs(told is None, least_listener(one, other) is None)
        if told is None:
            return None
        # The ear may be written, read back, and looked at by its table.
        house = read_house(show_house(told[0]))
        self.assertTrue(is_ear(one, other, (house, told[1])))
        self.assertIsNone(breaks(house))
        return house

    def test_two_papers(self):
        """[5]"""
        rows = [long_speech(40, unlike, seed) for unlike in (2, 3, 6) for seed in range(3)]
        rows += chance_meanings(5, 3) + [[], WORDS]
        rows += [shortest(row) for row in rows[:4]]
        houses = [self.papers(one, other) for one, other in itertools.combinations(rows, 2)]
        houses = [house for house in houses if house is not None]
        self.assertLess(len(houses), len(rows) * (len(rows) - 1) // 2)
        for house in houses[::5]:
            for seed in range(3):
                speech = [word for word in long_speech(60, 6, seed) if word in house.words()]
                self.assertEqual(house.deed(speech), house.deed(shortest(speech)))
        small = [house for house in houses if len(house.words()) <= 3]
        for house in small[:4]:
            self.assertTrue(is_table(house, table(house)))

    def test_what_like_ones_share(self):
        """[5]: like ones said behind and ahead, turned about, words left out, words replaced."""
        spoken = {"ant": ["cow", "dog"], "bee": [], "cow": ["ant", "ant", "bee"]}
        for seed in range(25):
            one = long_speech(20, 4, seed)
            other = single(doubled(doubled(shortest(one), 1, 2), 0, 1), 0, 1)
            behind, like = long_speech(15, 6, seed + 50), shortest(long_speech(15, 6, seed + 50))
            for change in (lambda u, w: u + w, lambda u, w: w + u, lambda u, w: turned(u + w),
                           lambda u, w: without(u + w, ["ant", "bee"]), lambda u, w: replaced(u + w, spoken)):
                self.assertTrue(alike(change(one, behind), change(other, like)))
                self.assertEqual(number_of(change(one, behind)), number_of(change(other, like)))

    def test_coming_on(self):
        """[6], by ways, talks, begun and shares."""
        rows = meanings_upto(3)[::3] + [u for pair in open_pairs(5, 6) for u in pair]
        for u, v in itertools.product(rows, rows):
            if len(set(u + v)) > 6:
                continue
            self.assertIs(comes_on(u, v), joined(u, v) == shortest(v))
            self.assertIs(comes_on(u, v), common_firsts(u, v) == len(set(u)) and set(u) <= set(v))
            if not comes_on(u, v):
                with self.assertRaises(NoWay):
                    on(u, v)
                continue
            talk = Talk()
            talk.come("amy")
            talk.tell(u)
            for word in on(u, v):
                self.assertNotEqual(talk.heard("amy"), shortest(v))
                talk.say(word)
            self.assertEqual(talk.heard("amy"), shortest(v))
            self.assertIs(type(begun_number(words_of(v), u, v)), int)
        self.assertEqual(early_many(WORDS[:4]), 591)

    def test_two_talks_that_grow_alike(self):
        """[7], by doors, ways, houses and talks."""
        met = set()
        pairs = near_pairs(4, 15) + open_pairs(4, 15) + [([], ["ant"]), (["ant"], ["ant"]), (["ant"], ["bee"])]
        for one, other in pairs:
            told = door(one, other)
            met.add(told[0])
            self.assertIs(told[0] == "shut", not comes_on(one, other) and not comes_on(other, one))
            talks = [Talk(), Talk()]
            for talk, speech in zip(talks, (one, other)):
                talk.come("amy")
                talk.tell(speech)
            if told[0] == "open":
                for talk in talks:
                    talk.tell(told[1])
            for word in ["dog", *WORDS[:4], "eel", "ant", "eel"]:
                heard = [talk.heard("amy") for talk in talks]
                self.assertIs(alike(*heard), told[0] != "shut")
                if told[0] == "shut":
                    self.assertEqual(door(*heard)[0], "shut")
                for talk in talks:
                    talk.say(word)
            # A word that neither has, said while they aren't alike, parts them for ever.
            if told[0] != "alike":
                told = door(one + ["fox"], other + ["fox"])
                self.assertEqual(told[0], "shut")
                ends = [told[1].leads(told[2], speech + ["fox"]) for speech in (one, other)]
                self.assertNotEqual(*ends)
                for end, word in itertools.product(ends, told[1].words()):
                    self.assertEqual(told[1].leads(end, [word]), end)
        self.assertEqual(met, {"alike", "open", "shut"})

    def test_a_slip_at_the_desk(self):
        """[7]: what is tried is what comes of it."""
        for seed in range(10):
            speech = long_speech(12, 3, seed)
            desk, other = Desk(), Desk()
            for one in (desk, other):
                one.say("tell " + show_speech(speech))
            told = desk.say(f"tried {seed} cow").split(" ")
            other.say(f"slip {seed} cow")
            stands = door(read_speech(desk.say("said")), read_speech(other.say("said")))
            self.assertEqual(told[0], stands[0])
            if told[0] == "open":
                for one in (desk, other):
                    one.say("tell " + " ".join(told[1:]))
                self.assertTrue(alike(read_speech(desk.say("said")), read_speech(other.say("said"))))

    def test_who_is_deaf_to_one_word_each(self):
        """[8], by fours, deaf and a talk of such listeners."""
        for unlike in (2, 3, 4, 6):
            for speech in chance_meanings(unlike, 3, unlike):
                rows = four(speech)
                heard = []
                for row in rows:
                    talk = Talk()
                    for at, word in enumerate(WORDS[:unlike]):
                        talk.come("abcdef"[at], deaf=(word,))
                    talk.tell(row)
                    heard.append([talk.heard("abcdef"[at]) for at in range(unlike)])
                    self.assertTrue(alike_to(row, speech, unlike - 1))
                self.assertEqual(heard, [heard[0]] * 4)
                self.assertEqual(len({number_of(row) for row in rows}), 4)
                self.assertEqual(heard_many(unlike, unlike - 1) * 4, meanings(WORDS[:unlike]))
        # Of three words no others: gone through.
        for row in meanings_upto(3)[-144::9]:
            found = [other for other in meanings_upto(3) if alike_to(row, other, 2)]
            self.assertEqual(sorted(found), four(row))

    def test_how_many_things_can_be_said(self):
        """[9], by numbers, the shortest speech, the listeners and the desk."""
        expected = 1
        for many in range(7):
            expected = expected if many == 0 else (many * expected) ** 2
            self.assertEqual(meanings(WORDS[:many]), expected)
            self.assertEqual(THINGS[many], expected)
            self.assertEqual(heard_many(many, 6), expected)
        self.assertEqual(all_meanings(WORDS[:3]), 160)
        self.assertEqual(len({tuple(row) for row in meanings_upto(3)}), 160)
        desk = Desk()
        for number in chance_numbers(THINGS[6], 10):
            told = desk.say(f"speech {number} {' '.join(WORDS)}")
            self.assertEqual(desk.say("number " + told), str(number))
            self.assertEqual(desk.say("short " + told), told)

    def test_a_book_of_it(self):
        """[5], [9]: a book means what its words mean, there and back by its text."""
        speech = chance_meanings(6, 1)[0]
        rows = [("row" + "abcdefgh"[at], speech[at * 12:at * 12 + 12]) for at in range((len(speech) + 11) // 12)]
        book = read_book(show_book(Book(rows)))
        book.put(("all", [name for name, parts in rows]))
        book.put(("twice", ["all", "all", "all"]))
        self.assertEqual(book.whole("all"), speech)
        self.assertEqual(book.meaning("twice"), speech)
        for at in range(0, len(speech), 5):
            self.assertEqual(book.piece("twice", at, 2 * len(speech) - at), joined(speech[at:], speech))
            self.assertTrue(alike(book.piece("all", 0, at) + book.piece("all", at, len(speech) - at), speech))


# The names, and what they take, as the interface tells them.
FUNCTIONS = {
    "kinds": "is_word(thing) is_speech(thing) are_words(thing)",
    "speeches": """words_of(speech) by_first(speech) by_last(speech) turned(speech) without(speech,words)
                replaced(speech,table) doubled(speech,at,many) single(speech,at,many)""",
    "strikes": "is_strike(speech,thing) struck(speech,thing) some_strike(speech) strikes(speech)",
    "shown": "shown(x,y,z)",
    "halves": "first_half(speech) last_half(speech)",
    "rows": "first_halves(speech) last_halves(speech)",
    "shortest": "laid(one,other) shortest(speech) alike(one,other) joined(one,other) most_words(many)",
    "numbers": "meanings(words) all_meanings(words) number_of(speech) speech_of(words,number)",
    "begun": "begun_many(words,speech) begun_of(words,speech,number) begun_number(words,speech,other)",
    "ways": "comes_on(u,v) on(u,v) ahead(u,v)",
    "shares": """early_many(v) late_many(v) early_of(v,number) late_of(v,number) early_number(v,speech)
              late_number(v,speech) common_firsts(one,other) common_lasts(one,other)""",
    "ears": "ear(one,other) is_ear(one,other,thing)",
    "tables": "breaks(house) table(house,*,most=400) is_table(house,thing)",
    "deaf": "alike_to(one,other,hears) heard_many(many,hears) least_listener(one,other)",
    "fours": "four(speech)",
    "doors": "door(one,other)",
    "texts": """show_speech(speech) show_house(house) show_book(book) read_speech(thing) read_house(thing)
             read_book(thing)""",
}
CLASSES = {
    ("houses", "House(rows)"): "rows() words() rooms() leads(room,speech) deed(speech)",
    ("talks", "Talk()"): """come(name,*,deaf=()) go(name) say(word) tell(speech) slip(at,word) back() again() said()
                         listeners() circles() heard(name) door(name,other) since(name,other) tried(at,word)
                         copied()""",
    ("books", "Book(rows)"): """put(row) names() many(name) word_at(name,place) meaning(name) piece(name,place,many)
                             whole(name)""",
    ("desk", "Desk()"): "say(row)",
}


class Interface(unittest.TestCase):
    """[3]: all that the interface lists is there under its name and takes what it tells."""

    def looked_at(self, thing, row):
        self.assertEqual(thing.__name__ + str(inspect.signature(thing)).replace(" ", ""), row)

    def test_functions(self):
        for module, rows in FUNCTIONS.items():
            for row in rows.split():
                self.looked_at(getattr(getattr(twicesaid, module), row.partition("(")[0]), row)

    def test_classes(self):
        for (module, made), rows in CLASSES.items():
            kind = getattr(getattr(twicesaid, module), made.partition("(")[0])
            self.assertIsInstance(kind, type)
            self.looked_at(kind, made)
            for row in rows.split():
                name, _, rest = row.partition("(")
                # The method stands in the class itself.
                method = vars(kind)[name]
                self.looked_at(method, name + "(self" + ("," if rest != ")" else "") + rest)


if __name__ == "__main__":
    unittest.main()
