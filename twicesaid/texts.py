"""Speeches, houses and books written as texts, and read back [91]."""

from twicesaid.books import Book
from twicesaid.errors import BadHouse, BadRow, NoText
from twicesaid.houses import House
from twicesaid.kinds import is_speech

SILENCE = "-"
NAMED = "="
# More figures no number has that is read, and not all Pythons would read very many.
MOST_FIGURES = 30


def shown_row(parts):
    """A row of a text, of these parts."""
    return " ".join(parts) + "\n"


def show_speech(speech):
    return " ".join(speech) if speech else SILENCE


def show_house(house):
    return "".join([shown_row([word] + [str(room) for room in rooms]) for word, rooms in house.rows()])


def show_book(book):
    return "".join([shown_row([name, NAMED] + parts) for name, parts in book.pages])


def is_figures(part):
    """Whether the text is a number as it is written."""
    if not 1 <= len(part) <= MOST_FIGURES or not all(["0" <= sign <= "9" for sign in part]):
        return False
    return part == "0" or part[0] != "0"


def is_shown_speech(parts):
    """Whether the parts, texts between blanks, write a speech."""
    return parts == [SILENCE] or (len(parts) > 0 and is_speech(parts))


def speech_by(parts):
    """The speech that the parts write."""
    return [] if parts == [SILENCE] else parts


def read_speech(thing):
    if not isinstance(thing, str) or not is_shown_speech(thing.split(" ")):
        raise NoText()
    return speech_by(thing.split(" "))


def read_rows(thing):
    """The rows of a text, each as its parts between blanks."""
    if not isinstance(thing, str):
        raise NoText()
    rows = thing.split("\n")
    # Behind the last line feed nothing stands; so silence, too, is a text of no rows.
    if rows[-1] != "":
        raise NoText()
    return [row.split(" ") for row in rows[:-1]]


def read_house(thing):
    rows = read_rows(thing)
    if not all([is_figures(part) for parts in rows for part in parts[1:]]):
        raise NoText()
    try:
        return House([(parts[0], [int(part) for part in parts[1:]]) for parts in rows])
    except BadHouse:
        raise NoText()


def read_book(thing):
    rows = read_rows(thing)
    if not all([parts[1:2] == [NAMED] for parts in rows]):
        raise NoText()
    try:
        return Book([(parts[0], parts[2:]) for parts in rows])
    except BadRow:
        raise NoText()
