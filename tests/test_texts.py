import itertools
import unittest

from tests.helper import ODD, WORDS, Odd, chance_meanings, long_speech, near_pairs, speeches_upto, told_fresh
from twicesaid.books import Book
from twicesaid.ears import ear
from twicesaid.errors import NoText
from twicesaid.houses import House
from twicesaid.kinds import is_speech
from twicesaid.texts import read_book, read_house, read_speech, show_book, show_house, show_speech

NO_TEXTS = [None, True, False, 0, 1, -1, 10 ** 59, b"", b"ant", b"-", [], ["ant"], ["a", "n", "t"], (), ("ant",), {},
            {"ant": "ant"}, set(), ODD, Odd, str, len, House([("ant", [0])]), Book([]), Book([("ant", [])]),
            [[[[["ant"]]]]]]
HOUSES = [
    [("ant", [0])], [("ant", [0, 0]), ("bee", [1, 1])], [("bee", [1, 1, 2]), ("ant", [0, 2, 2])],
    [("abcdefgh", list(range(12))), ("z", [11] * 12)], [(word, [at] * 6) for at, word in enumerate(WORDS)],
    [("ant", [1, 2, 0])], [("ant", [10, 9, 8, 7, 6, 5, 4, 3, 2, 1, 0, 11])],
]
BOOKS = [[], [("one", [])], [("one", ["ant"])], [("one", ["one", "one"]), ("two", ["one", "bee"])],
         [("one", []), ("two", ["one"] * 12)], [("abcdefgh", ["abcdefgh"] * 12), ("z", ["abcdefgh"])],
         [(word, WORDS[:at]) for at, word in enumerate(WORDS)],
         [(one + other, ["abcdefgh"] * 12) for one in "abcdef" for other in "abcdefghij"],]


def spoilt(text):
    """The text with one sign too many, too few, or another one, at each place."""
    for at in range(len(text) + 1):
        yield text[:at] + text[at + 1:]
        for sign in " \n=-0az9A~!.":
            yield text[:at] + sign + text[at:]
            yield text[:at] + sign + text[at + 1:]


class Speeches(unittest.TestCase):
    """[3], [91]"""

    def test_shown(self):
        for speech, text in [([], "-"), (["ant"], "ant"), (["ant", "bee"], "ant bee"), (["ant"] * 3, "ant ant ant"),
                             (["a", "abcdefgh"], "a abcdefgh")]:
            self.assertEqual(told_fresh(self, show_speech, speech), text)
            self.assertEqual(told_fresh(self, read_speech, text), speech)

    def test_there_and_back(self):
        for speech in [*speeches_upto(WORDS[:3], 3), WORDS * 50, long_speech(300), *chance_meanings(6, 5)]:
            self.assertEqual(read_speech(show_speech(speech)), speech)

    def refused(self, thing):
        with self.assertRaises(NoText):
            read_speech(thing)

    def test_what_writes_none(self):
        for thing in ["", " ", "  ", "--", "- -", " -", "- ", "-\n", "\n", "- ant", "ant -", "ant ", " ant", "ant  bee",
                      "ant\n", "ant\nbee", "ant, bee", "Ant", "ANT", "ant1", "1", "0", "abcdefghi", "ant abcdefghi",
                      "ant/bee", "ant / bee", "=", "_", "ant_bee", "'ant'", "[]", "ant\tbee",
                      " ".join([*WORDS, "gnat"]), " ".join(["ant"] * 301), " ".join(WORDS * 51), "a" * 7500, "~",
                      "ant.", "None"]:
            self.refused(thing)

    def test_things_that_are_no_text(self):
        for thing in NO_TEXTS:
            self.refused(thing)

    def test_all_that_is_near(self):
        for text in ("-", "ant", "a b", "ant bee", "abcdefgh z"):
            for thing in spoilt(text):
                parts = thing.split(" ")
                if thing == "-":
                    self.assertEqual(read_speech(thing), [])
                elif is_speech(parts):
                    self.assertEqual(read_speech(thing), parts)
                    self.assertEqual(show_speech(read_speech(thing)), thing)
                else:
                    self.refused(thing)


class Houses(unittest.TestCase):
    """[3], [91]"""

    def test_shown(self):
        self.assertEqual(show_house(House(HOUSES[0])), "ant 0\n")
        self.assertEqual(show_house(House(HOUSES[1])), "ant 0 0\nbee 1 1\n")
        self.assertEqual(show_house(House(HOUSES[2])), "bee 1 1 2\nant 0 2 2\n")
        self.assertEqual(show_house(House(HOUSES[3])),
                         "abcdefgh 0 1 2 3 4 5 6 7 8 9 10 11\nz 11 11 11 11 11 11 11 11 11 11 11 11\n")

    def test_there_and_back(self):
        for rows in HOUSES + [ear(one, other)[0].rows() for one, other in near_pairs(5, 5)]:
            house = House(rows)
            text = show_house(house)
            told = read_house(text)
            self.assertIsInstance(told, House)
            self.assertEqual(told.rows(), rows)
            self.assertEqual(show_house(told), text)
            self.assertEqual(house.rows(), rows)

    def refused(self, thing):
        with self.assertRaises(NoText, msg=thing):
            read_house(thing)

    def test_what_writes_none(self):
        for thing in ["", "\n", " ", "-", "ant", "ant\n", "ant \n", "ant 0", "ant  0\n", " ant 0\n", "ant 0 \n",
                      "ant 0\n\n", "\nant 0\n", "ant 0 0\nbee 1 1", "ant 0 0\n\nbee 1 1\n", "ant 0 0\nbee 1\n",
                      "ant 0\nbee 0 0\n", "ant 0 0 bee 1 1\n", "ant 00\n", "ant 0 01\n", "ant 01 1\n", "ant 0 00\n",
                      "ant 1\n", "ant 0 2\n", "ant -1\n", "ant 0 -1\n", "ant +0\n", "ant 0 +1\n", "ant 0.0\n",
                      "ant 0,0\n", "ant 0 0\nant 1 1\n", "0 0\n", "Ant 0\n", "abcdefghi 0\n", "ant bee\n",
                      "ant 0 bee\n", "ant 0x0\n", "ant 0 1_0\n", "ant = 0\n", "0\n", "0 ant\n",
                      "ant " + " ".join(["0"] * 13) + "\n", "ant " + "0" * 30 + "\n", "ant " + "1" * 7000 + "\n",
                      "ant 0 " + "9" * 31 + "\n", "ant " + "0 " * 11 + "12\n",
                      "".join(word + " 0\n" for word in [*WORDS, "gnat"]), "ant 0\tbee 0\n", "ant\n0\n"]:
            self.refused(thing)

    def test_things_that_are_no_text(self):
        for thing in NO_TEXTS:
            self.refused(thing)

    def test_all_that_is_near(self):
        """What is read is written just so; whatever else is refused."""
        kept = 0
        for rows in HOUSES[:3]:
            for thing in spoilt(show_house(House(rows))):
                try:
                    told = read_house(thing)
                except NoText:
                    continue
                self.assertEqual(show_house(told), thing)
                kept += 1
        self.assertGreater(kept, 20)

    def test_twelve_rooms_and_six_words(self):
        rows = [(word, [11 - at] * 12) for at, word in enumerate(WORDS)]
        self.assertEqual(read_house(show_house(House(rows))).rows(), rows)


class Books(unittest.TestCase):
    """[3], [91]"""

    def test_shown(self):
        for rows, text in [([], ""), ([("one", [])], "one =\n"), ([("one", ["ant"])], "one = ant\n"),
                           ([("one", ["ant", "bee"]), ("two", [])], "one = ant bee\ntwo =\n"),
                           ([("one", ["one", "one"]), ("two", ["one", "bee"])], "one = one one\ntwo = one bee\n")]:
            self.assertEqual(show_book(Book(rows)), text)
            self.assertEqual(read_book(text), Book(rows))

    def test_there_and_back(self):
        for rows in BOOKS:
            book = Book(rows)
            text = show_book(book)
            told = read_book(text)
            self.assertIsInstance(told, Book)
            self.assertEqual(told, book)
            self.assertEqual(show_book(told), text)
            self.assertEqual(book, Book(rows))

    def test_what_is_read_goes_on_by_itself(self):
        book = Book([("one", ["ant"])])
        told = read_book(show_book(book))
        told.put(("two", ["one"]))
        self.assertEqual(show_book(told), "one = ant\ntwo = one\n")
        self.assertEqual(show_book(book), "one = ant\n")

    def refused(self, thing):
        with self.assertRaises(NoText, msg=thing):
            read_book(thing)

    def test_what_writes_none(self):
        letters = "abcdefghijklmnopqr"
        tens = "".join(letters[at] + "x =" + 10 * (" " + letters[at - 1] + "x") + "\n" for at in range(18))
        self.assertEqual(read_book(tens).many("rx"), 10 ** 18)
        for thing in [" ", "\n", "-", "=", "=\n", "one\n", "one", "one =", "one = ant", "one = \n", "one  =\n",
                      " one =\n", "one =\n\n", "\none =\n", "one =  ant\n", "one = ant \n", "one = ant\n ",
                      "one= ant\n", "one =ant\n", "one=ant\n", "one : ant\n", "one = = ant\n", "one == ant\n",
                      "one ant = bee\n", "one ant\n", "= ant\n", "one = -\n", "One = ant\n", "one = Ant\n", "one = 1\n",
                      "1 = ant\n", "abcdefghi =\n", "one = abcdefghi\n", "one =\ntwo", "one =\none =\n",
                      "one = ant\none = bee\n", "one = ant\n\ntwo = bee\n", "one =\ttwo\n",
                      "one = " + " ".join(["ant"] * 13) + "\n", "one = " + " ".join([*WORDS, "gnat"]) + "\n",
                      "".join(one + other + " =\n" for one in "abcdefg" for other in "abcdefghij"),
                      tens + "sx = rx ant\n", "one = ant, bee\n", "one = ant = bee\n"]:
            self.refused(thing)

    def test_sixty_rows_and_one_more(self):
        names = [one + other for one in "abcdefg" for other in "abcdefghij"]
        self.assertEqual(len(read_book("".join(name + " =\n" for name in names[:60]))), 60)
        self.refused("".join(name + " =\n" for name in names[:61]))

    def test_things_that_are_no_text(self):
        for thing in NO_TEXTS:
            self.refused(thing)

    def test_all_that_is_near(self):
        kept = 0
        for rows in ([("one", [])], [("one", ["ant"])], [("one", ["ant", "bee"]), ("two", ["one"])]):
            for thing in spoilt(show_book(Book(rows))):
                try:
                    told = read_book(thing)
                except NoText:
                    continue
                self.assertEqual(show_book(told), thing)
                kept += 1
        self.assertGreater(kept, 20)

    def test_texts_of_one_kind_are_not_read_as_another(self):
        texts = {read_speech: "ant bee", read_house: "ant 0\n", read_book: "one = ant\n"}
        for read, other in itertools.permutations(texts, 2):
            with self.assertRaises(NoText):
                read(texts[other])


if __name__ == "__main__":
    unittest.main()
