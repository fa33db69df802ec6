"""Books: rows that say words and what rows ahead of them say, of very many words if need be [90]."""

from twicesaid.errors import BadRow, NoName, NoPlace, TooLong
from twicesaid.kinds import LONGEST_SPEECH, MOST_UNLIKE, is_word
from twicesaid.shortest import shortest

MOST_ROWS = 60
MOST_PARTS = 12
MOST_SAID = 10 ** 18


def is_page(thing):
    """Whether the thing, whatever it is, could be a row of some book."""
    if not isinstance(thing, tuple) or len(thing) != 2:
        return False
    if not is_word(thing[0]) or not isinstance(thing[1], list):
        return False
    return len(thing[1]) <= MOST_PARTS and all([is_word(part) for part in thing[1]])


class Book:
    """Rows, each of which has a name; they are counted from 0."""

    def __init__(self, rows):
        self.pages = []
        # For each name the place of its row; for each row how many words it says, and the shortest speech of these.
        self.places = {}
        self.sizes = []
        self.senses = []
        if not isinstance(rows, list):
            raise BadRow(0)
        for row in rows:
            self.put(row)

    def __eq__(self, other):
        return isinstance(other, Book) and self.pages == other.pages

    def __len__(self):
        return len(self.pages)

    def put(self, row):
        """Puts a row behind the others."""
        at = len(self.pages)
        if at >= MOST_ROWS or not is_page(row) or row[0] in self.places:
            raise BadRow(at)
        name, parts = row
        size = sum([self.part_size(part, at) for part in parts])
        sense = [word for part in parts for word in self.part_sense(part, at)]
        if size > MOST_SAID or len(set(sense)) > MOST_UNLIKE:
            raise BadRow(at)
        self.pages.append((name, list(parts)))
        self.places[name] = at
        self.sizes.append(size)
        self.senses.append(shortest(sense))

    def row_of(self, part, at):
        """The row for which a part of the row at stands, or None where it stands for itself."""
        place = self.places.get(part, at)
        return place if place < at else None

    def part_size(self, part, at):
        """How many words a part of the row at says."""
        place = self.row_of(part, at)
        return 1 if place is None else self.sizes[place]

    def part_sense(self, part, at):
        """The shortest speech of what a part of the row at says."""
        place = self.row_of(part, at)
        return [part] if place is None else self.senses[place]

    def names(self):
        return [name for name, parts in self.pages]

    def found(self, name):
        """The place of the row of this name."""
        if name not in self.places:
            raise NoName(name)
        return self.places[name]

    def many(self, name):
        """How many words it says."""
        return self.sizes[self.found(name)]

    def word_at(self, name, place):
        """The word at a place of what it says."""
        at = self.found(name)
        if place >= self.sizes[at]:
            raise NoPlace(place)
        return self.words_between(at, place, place + 1)[0]

    def meaning(self, name):
        """The shortest speech of what it says."""
        return list(self.senses[self.found(name)])

    def piece(self, name, place, many):
        """The shortest speech of so many words from the place on."""
        at = self.found(name)
        if place + many > self.sizes[at]:
            raise NoPlace(place)
        return self.sense_between(at, place, place + many)

    def whole(self, name):
        """All the words that it says."""
        at = self.found(name)
        if self.sizes[at] > LONGEST_SPEECH:
            raise TooLong(LONGEST_SPEECH)
        return self.words_between(at, 0, self.sizes[at])

    def cuts(self, at, begin, end):
        """The parts that say the words from begin to end of the row at: tuples (part, begin, end), of its own words."""
        told = []
        for part in self.pages[at][1]:
            size = self.part_size(part, at)
            # Parts that say nothing of it are passed over: of those that say nothing at all there may be very many.
            if max(begin, 0) < min(end, size):
                told.append((part, max(begin, 0), min(end, size)))
            begin -= size
            end -= size
        return told

    def words_between(self, at, begin, end):
        """The words from begin to end of the row at, one by one."""
        told = []
        for part, low, high in self.cuts(at, begin, end):
            place = self.row_of(part, at)
            told.extend([part] if place is None else self.words_between(place, low, high))
        return told

    def sense_between(self, at, begin, end):
        """The shortest speech of the words from begin to end of the row at."""
        if end - begin == self.sizes[at]:
            return list(self.senses[at])
        told = []
        for part, low, high in self.cuts(at, begin, end):
            place = self.row_of(part, at)
            told.extend([part] if place is None else self.sense_between(place, low, high))
        return shortest(told)
