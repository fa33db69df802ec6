import copy
import itertools
import unittest

from tests.helper import NO_WORDS, ODD, WORDS, Odd, chance_numbers, long_speech, told_fresh
from twicesaid.books import Book
from twicesaid.errors import BadRow, NoName, NoPlace, SaidError, TooLong
from twicesaid.houses import House
from twicesaid.shortest import joined, shortest

NAMES = [one + other for one in "qrstuvwx" for other in "abcdefghij"]
# What can be no row of a book, whatever stands ahead.
NO_ROWS = [None, True, 0, 1, "", "ant", b"", [], ["row", []], ["row", ["ant"]], {}, {"row": ["ant"]}, set(), ODD, Odd,
           tuple, (), ("row",), ("row", [], []), ("row", ["ant"], None), ("row", None), ("row", "ant"), ("row", ""),
           ("row", ()), ("row", ("ant",)), ("row", {}), ("row", {"ant"}), ("row", {"ant": 1}), ("row", 0),
           (["ant"], "row"), ([], []), ("row", [None]), ("row", [""]), ("row", ["Ant"]), ("row", ["ant", 1]),
           ("row", ["ant", True]), ("row", [["ant"]]), ("row", [("ant",)]), ("row", ["ant bee"]),
           ("row", ["abcdefghi"]), ("row", ["ant"] * 13), ("row", [ODD]), ("row", [b"ant"]),
           ("row", [letter * 2 for letter in "abcdefg"]), (("row", ["ant"]),), ("row", [[[[]]]])]
NO_ROWS += [(name, ["ant"]) for name in NO_WORDS]


def tens(top=17, word="ant"):
    """Rows of which the k-th says ten times as much as the one ahead: 10 ** (top + 1) words the last one."""
    rows = [(NAMES[0], [word] * 10)]
    for at in range(1, top + 1):
        rows.append((NAMES[at], [NAMES[at - 1]] * 10))
    return rows


def said_by(rows):
    """All the words that each row says, name by name."""
    told = {}
    for name, parts in rows:
        told[name] = [word for part in parts for word in told.get(part, [part])]
    return told


SMALL = [("one", ["ant", "bee"]), ("none", []), ("two", ["one", "cow", "one"]), ("self", ["self", "ant"]),
         ("three", ["none", "two", "none", "two", "ant"]), ("late", ["later", "ant"]), ("later", ["late", "bee"]),
         ("four", ["three", "three", "one"]), ("five", ["none", "none"]), ("six", ["five"] * 12), ("ant", ["bee"]),
         ("seven", ["ant", "ant", "cow"]), ("eight", ["one", "ant"]),]


class Case(unittest.TestCase):
    def refused(self, expected, asked, *handed):
        with self.assertRaises(SaidError) as caught:
            asked(*handed)
        self.assertIs(type(caught.exception), type(expected), handed)
        self.assertEqual(vars(caught.exception), vars(expected), handed)


class Made(Case):
    """[3], [4], [90]"""

    def test_no_rows(self):
        book = Book([])
        self.assertEqual(told_fresh(self, book.names), [])
        self.assertEqual(len(book), 0)

    def test_what_is_no_list(self):
        for thing in [None, True, False, 0, 7, "", "ant", b"", (), (("row", ["ant"]),), {}, {"row": ["ant"]}, set(),
                      ODD, Odd, list, range(0), Book([]), Book(SMALL), House([("ant", [0])])]:
            self.refused(BadRow(0), Book, thing)

    def test_each_kind_of_fault(self):
        for ahead in ([], SMALL[:1], SMALL):
            for row in NO_ROWS:
                self.refused(BadRow(len(ahead)), Book, ahead + [row])
                self.refused(BadRow(len(ahead)), Book, ahead + [row, ("more", [])])
                self.refused(BadRow(len(ahead)), Book, ahead + [row] * 3)
                book = Book(ahead)
                self.refused(BadRow(len(ahead)), book.put, row)
                self.assertEqual(book, Book(ahead))
                self.assertEqual(book.names(), [name for name, parts in ahead])

    def test_the_first_fault(self):
        bad = [None, ("one", ["ant"]), ("row", ["ant"] * 13), ("row", [*WORDS, "gnat"]), ("Row", [])]
        for one, other in itertools.product(bad, repeat=2):
            self.refused(BadRow(1), Book, [("one", []), one, other])
            self.refused(BadRow(2), Book, [("one", []), ("two", []), one, ("more", []), other])

    def test_a_name_twice(self):
        self.refused(BadRow(1), Book, [("one", ["ant"]), ("one", ["ant"])])
        self.refused(BadRow(3), Book, [("one", []), ("two", []), ("three", []), ("two", ["ant"])])
        book = Book(SMALL)
        for name, parts in SMALL:
            self.refused(BadRow(len(SMALL)), book.put, (name, []))

    def test_sixty_rows(self):
        rows = [(name, ["ant"]) for name in NAMES[:60]]
        book = Book(rows)
        self.assertEqual(len(book), 60)
        self.assertEqual(book.names(), NAMES[:60])
        self.refused(BadRow(60), Book, rows + [(NAMES[60], ["ant"])])
        self.refused(BadRow(60), Book, rows + [(NAMES[60], ["ant"]), None])
        self.refused(BadRow(60), book.put, (NAMES[60], []))
        self.refused(BadRow(60), book.put, None)
        self.refused(BadRow(59), Book, rows[:59] + [None] + rows[59:])
        self.assertEqual(len(book), 60)
        self.assertEqual(book, Book(rows))

    def test_twelve_parts(self):
        self.assertEqual(Book([("row", ["ant"] * 12)]).whole("row"), ["ant"] * 12)
        self.refused(BadRow(0), Book, [("row", ["ant"] * 13)])
        self.refused(BadRow(1), Book, [("one", []), ("row", ["one"] * 13)])

    def test_six_unlike_words(self):
        rows = [("one", WORDS[:3]), ("two", WORDS[3:]), ("three", ["one", "two", "one"])]
        self.assertEqual(Book(rows).whole("three"), WORDS + WORDS[:3])
        for parts in (["three", "gnat"], ["gnat", "three"], ["one", "gnat", "two"], [*WORDS, "gnat"],
                      ["one", "two", "new"]):
            self.refused(BadRow(3), Book, rows + [("new", parts)])
            book = Book(rows)
            self.refused(BadRow(3), book.put, ("new", parts))
            self.assertEqual(book, Book(rows))
        Book(rows + [("new", ["gnat"]), ("newer", ["new", "one", "dog", "eel"])])
        # Twelve parts of six unlike words each would be very many.
        rows = [(name, [letter + other for other in "abcdef"]) for name, letter in zip(NAMES, "abcdefghijkl")]
        self.refused(BadRow(12), Book, rows + [("new", NAMES[:12])])

    def test_very_many_words(self):
        book = Book(tens())
        self.assertEqual([book.many(name) for name in book.names()], [10 ** (k + 1) for k in range(18)])
        top = NAMES[17]
        for parts in ([top, "ant"], ["ant", top], [top, top], [top] * 12, [top, NAMES[0]]):
            self.refused(BadRow(18), Book, tens() + [("new", parts)])
            self.refused(BadRow(18), book.put, ("new", parts))
        book.put(("none", []))
        book.put(("new", [top, "none"]))
        self.assertEqual(book.many("new"), 10 ** 18)
        self.refused(BadRow(20), book.put, ("newer", ["new", "ant"]))
        self.assertEqual(len(book), 20)

    def test_put(self):
        book = Book([])
        for at, row in enumerate(SMALL):
            self.assertIsNone(book.put(row))
            self.assertEqual(len(book), at + 1)
            self.assertEqual(book, Book(SMALL[:at + 1]))
        self.assertEqual(book.names(), [name for name, parts in SMALL])

    def test_a_row_put_later_changes_no_elder_row(self):
        book = Book([("one", ["ant", "late"])])
        book.put(("late", ["bee", "bee"]))
        book.put(("two", ["late", "one"]))
        self.assertEqual(book.whole("one"), ["ant", "late"])
        self.assertEqual(book.whole("two"), ["bee", "bee", "ant", "late"])

    def test_what_was_handed_in_may_be_changed_behind_the_call(self):
        rows = copy.deepcopy(SMALL)
        book = Book(rows)
        self.assertEqual(rows, SMALL)
        rows.append(("more", []))
        rows[0][1].append("cow")
        rows[2][1].clear()
        self.assertEqual(book, Book(SMALL))
        self.assertEqual(book.whole("two"), ["ant", "bee", "cow", "ant", "bee"])
        row = ("more", ["ant"])
        book.put(row)
        row[1].append("bee")
        self.assertEqual(book.whole("more"), ["bee"])
        self.assertEqual(row, ("more", ["ant", "bee"]))


class Equal(unittest.TestCase):
    """[90]"""

    def test_equal_ones(self):
        for rows in ([], SMALL, tens(), [("one", [])]):
            self.assertTrue(Book(rows) == Book(rows))
            self.assertFalse(Book(rows) != Book(rows))

    def test_unlike_ones(self):
        rows = [[], [("one", [])], [("two", [])], [("one", ["ant"])], [("one", ["ant", "ant"])], [("one", ["bee"])],
                [("one", []), ("two", [])], [("two", []), ("one", [])], [("one", ["ant"]), ("two", ["one"])],
                [("one", ["ant"]), ("two", ["ant"])], SMALL, tens()]
        for one, other in itertools.permutations(rows, 2):
            self.assertTrue(Book(one) != Book(other))
            self.assertFalse(Book(one) == Book(other))

    def test_things_that_are_none(self):
        for rows in ([], [("one", [])], SMALL):
            book = Book(rows)
            for thing in [None, True, False, 0, 1, len(rows), "", "one", b"", [], rows, tuple(rows), dict(rows), set(),
                          ODD, Odd, Book, book.names(), House([("ant", [0])])]:
                self.assertIs(book == thing, False)
                self.assertIs(thing == book, False)
                self.assertIs(book != thing, True)

    def test_len(self):
        for many in range(len(SMALL)):
            self.assertEqual(len(Book(SMALL[:many])), many)


class Told(Case):
    """[3], [90]"""

    def test_names(self):
        self.assertEqual(told_fresh(self, Book(SMALL).names), [name for name, parts in SMALL])

    def test_no_such_name(self):
        for book in (Book([]), Book(SMALL), Book(tens())):
            for name in ("nobody", "bee", "cow", "a", "abcdefgh"):
                self.refused(NoName(name), book.many, name)
                self.refused(NoName(name), book.word_at, name, 0)
                self.refused(NoName(name), book.word_at, name, 10 ** 59)
                self.refused(NoName(name), book.meaning, name)
                self.refused(NoName(name), book.piece, name, 0, 0)
                self.refused(NoName(name), book.piece, name, 10 ** 59, 10 ** 59)
                self.refused(NoName(name), book.whole, name)

    def test_small_ones(self):
        book, said = Book(SMALL), said_by(SMALL)
        self.assertEqual(said["self"], ["self", "ant"])
        self.assertEqual(said["late"], ["later", "ant"])
        self.assertEqual(said["later"], ["later", "ant", "bee"])
        self.assertEqual(said["seven"], ["bee", "bee", "cow"])
        self.assertEqual(said["eight"], ["ant", "bee", "bee"])
        for name, words in said.items():
            self.assertEqual(book.many(name), len(words))
            self.assertEqual(told_fresh(self, book.whole, name), words)
            self.assertEqual(told_fresh(self, book.meaning, name), shortest(words))
            for place, word in enumerate(words):
                self.assertEqual(book.word_at(name, place), word)
            for place in (len(words), len(words) + 1, 10 ** 59):
                self.refused(NoPlace(place), book.word_at, name, place)
            for place, many in itertools.product(range(len(words) + 2), repeat=2):
                if place + many <= len(words):
                    self.assertEqual(told_fresh(self, book.piece, name, place, many),
                                     shortest(words[place:place + many]))
                else:
                    self.refused(NoPlace(place), book.piece, name, place, many)

    def test_pieces_at_the_edges(self):
        book = Book(SMALL)
        self.assertEqual(book.piece("none", 0, 0), [])
        self.refused(NoPlace(1), book.piece, "none", 1, 0)
        self.refused(NoPlace(0), book.piece, "none", 0, 1)
        self.assertEqual(book.piece("one", 2, 0), [])
        self.refused(NoPlace(3), book.piece, "one", 3, 0)
        self.refused(NoPlace(2), book.piece, "one", 2, 1)
        self.refused(NoPlace(0), book.piece, "one", 0, 10 ** 59)
        self.refused(NoPlace(10 ** 59), book.piece, "one", 10 ** 59, 0)

    def test_whole_ones_of_three_hundred_words(self):
        rows = [("ten", [*WORDS, *WORDS[:4]]), ("hundred", ["ten"] * 10), ("full", ["hundred"] * 3),
                ("more", ["full", "ant"])]
        book = Book(rows)
        self.assertEqual(told_fresh(self, book.whole, "full"), rows[0][1] * 30)
        self.refused(TooLong(300), book.whole, "more")
        self.assertEqual(book.meaning("more"), shortest(book.whole("full") + ["ant"]))
        self.refused(TooLong(300), Book(tens()).whole, NAMES[17])

    def test_rows_that_say_nothing(self):
        rows = [(NAMES[0], [])] + [(NAMES[at], [NAMES[at - 1]] * 12) for at in range(1, 59)]
        rows.append((NAMES[59], [NAMES[58]] * 5 + ["ant"] + [NAMES[58]] * 5))
        book = Book(rows)
        self.assertEqual(book.many(NAMES[58]), 0)
        self.assertEqual(book.whole(NAMES[58]), [])
        self.assertEqual(book.whole(NAMES[59]), ["ant"])
        self.assertEqual(book.meaning(NAMES[58]), [])
        self.assertEqual(book.piece(NAMES[59], 0, 1), ["ant"])
        self.assertEqual(book.piece(NAMES[59], 1, 0), [])
        self.assertEqual(book.word_at(NAMES[59], 0), "ant")
        self.refused(NoPlace(0), book.word_at, NAMES[58], 0)

    def test_sixty_rows_one_within_another(self):
        rows = [(NAMES[0], ["ant"])] + [(NAMES[at], [NAMES[at - 1], WORDS[at % 6]]) for at in range(1, 60)]
        book, said = Book(rows), said_by(rows)[NAMES[59]]
        self.assertEqual(book.whole(NAMES[59]), said)
        for place in range(60):
            self.assertEqual(book.word_at(NAMES[59], place), said[place])
            self.assertEqual(book.piece(NAMES[59], place, 60 - place), shortest(said[place:]))
            self.assertEqual(book.piece(NAMES[59], 0, place), shortest(said[:place]))
            self.assertEqual(book.piece(NAMES[59], place // 3, place // 2), shortest(said[place // 3:][:place // 2]))


def mixed():
    """Rows that say very many words: each the two ahead of it and a word."""
    rows = [(NAMES[0], ["ant", "bee"]), (NAMES[1], ["cow", "ant"])]
    for at in range(2, 60):
        rows.append((NAMES[at], [NAMES[at - 2], WORDS[at % 6], NAMES[at - 1]]))
    return rows


def mixed_word(at, place):
    """The word at a place, by the sizes alone."""
    sizes = [2, 2]
    while len(sizes) <= at:
        sizes.append(sizes[-1] + sizes[-2] + 1)
    while at > 1:
        if place < sizes[at - 2]:
            at -= 2
        elif place == sizes[at - 2]:
            return WORDS[at % 6]
        else:
            place -= sizes[at - 2] + 1
            at -= 1
    return mixed()[at][1][place]


class VeryManyWords(Case):
    """[90]"""

    def setUp(self):
        self.book = Book(mixed())
        self.top = NAMES[59]
        self.many = self.book.many(self.top)

    def test_how_many(self):
        sizes = [2, 2]
        for at in range(2, 60):
            sizes.append(sizes[-1] + sizes[-2] + 1)
        self.assertEqual([self.book.many(name) for name in self.book.names()], sizes)
        self.assertGreater(self.many, 10 ** 12)

    def places(self):
        return [0, 1, 2, self.many // 2, self.many - 100, self.many - 1, *chance_numbers(self.many - 100, 9)]

    def test_words_at_places(self):
        for place in self.places():
            self.assertEqual(self.book.word_at(self.top, place), mixed_word(59, place))
        for place in (self.many, self.many + 1, 10 ** 59):
            self.refused(NoPlace(place), self.book.word_at, self.top, place)

    def test_short_pieces(self):
        for place in self.places():
            many = min(60, self.many - place)
            words = [mixed_word(59, place + k) for k in range(many)]
            for few in (0, 1, 2, 7, many):
                self.assertEqual(self.book.piece(self.top, place, min(few, many)), shortest(words[:few]))

    def test_long_pieces_put_together(self):
        for place in self.places():
            for many in chance_numbers(self.many - place, 3, seed=place):
                begun = self.book.piece(self.top, 0, place)
                amid = told_fresh(self, self.book.piece, self.top, place, many)
                ended = self.book.piece(self.top, place + many, self.many - place - many)
                self.assertEqual(joined(begun, amid), self.book.piece(self.top, 0, place + many))
                self.assertEqual(joined(joined(begun, amid), ended), self.book.meaning(self.top))

    def test_meanings(self):
        said = {}
        for name, parts in mixed():
            said[name] = shortest([word for part in parts for word in said.get(part, [part])])
            self.assertEqual(self.book.meaning(name), said[name])
        for name in NAMES[:9]:
            self.assertEqual(self.book.meaning(name), shortest(self.book.whole(name)))

    def test_at_the_end_and_beyond(self):
        self.assertEqual(self.book.piece(self.top, 0, self.many), self.book.meaning(self.top))
        self.assertEqual(self.book.piece(self.top, self.many, 0), [])
        for place, many in [(0, self.many + 1), (1, self.many), (self.many, 1), (self.many + 1, 0), (10 ** 59, 0),
                            (5, 10 ** 59)]:
            self.refused(NoPlace(place), self.book.piece, self.top, place, many)
        self.refused(TooLong(300), self.book.whole, self.top)

    def test_ten_to_the_eighteenth(self):
        rows = tens(16) + [("last", [NAMES[16]] * 9 + [NAMES[16], "none"])]
        book = Book([("none", [])] + rows)
        self.assertEqual(book.many("last"), 10 ** 18)
        self.assertEqual(book.word_at("last", 10 ** 18 - 1), "ant")
        self.assertEqual(book.piece("last", 10 ** 17 + 3, 10 ** 17), ["ant"])
        self.refused(NoPlace(10 ** 18), book.word_at, "last", 10 ** 18)

    def test_twelve_of_six_unlike_words_each(self):
        rows = [(NAMES[0], long_speech(12)), (NAMES[1], long_speech(12, 6, 5))]
        for at in range(2, 16):
            rows.append((NAMES[at], [NAMES[at - 1 - (k * k + at) % 2] for k in range(12)]))
        book, said = Book(rows), said_by(rows[:4])
        self.assertEqual(book.meaning(NAMES[3]), shortest(said[NAMES[3]]))
        many = book.many(NAMES[15])
        for place in chance_numbers(many, 5):
            self.assertEqual(joined(book.piece(NAMES[15], 0, place), book.piece(NAMES[15], place, many - place)),
                             book.meaning(NAMES[15]))


if __name__ == "__main__":
    unittest.main()
