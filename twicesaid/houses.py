"""Houses: words that lead from room to room [60]."""

from twicesaid.errors import BadHouse, NoWord
from twicesaid.kinds import MOST_UNLIKE, is_whole, is_word

MOST_ROOMS = 12


def are_rooms(things, many):
    """Whether all the things, whatever they are, are rooms of a house that has so many."""
    return all([is_whole(thing) and 0 <= thing < many for thing in things])


def is_row(thing):
    """Whether the thing, whatever it is, is a row of some house."""
    if not isinstance(thing, tuple) or len(thing) != 2:
        return False
    if not is_word(thing[0]) or not isinstance(thing[1], list):
        return False
    return 1 <= len(thing[1]) <= MOST_ROOMS and are_rooms(thing[1], len(thing[1]))


def paths_of(rows):
    """For each word the rooms to which it leads, in the order of the rows."""
    if not isinstance(rows, list) or len(rows) == 0:
        raise BadHouse(0)
    paths = {}
    for at, row in enumerate(rows):
        if at == MOST_UNLIKE or not is_row(row):
            raise BadHouse(at)
        if row[0] in paths or len(row[1]) != len(rows[0][1]):
            raise BadHouse(at)
        paths[row[0]] = list(row[1])
    return paths


class House:
    """Rooms, and words that lead from each of them to one of them."""

    def __init__(self, rows):
        self.paths = paths_of(rows)

    def rows(self):
        return [(word, list(path)) for word, path in self.paths.items()]

    def words(self):
        return sorted(self.paths.keys())

    def rooms(self):
        """How many rooms there are."""
        return len(self.rows()[0][1])

    def leads(self, room, speech):
        """The room to which the speech leads from the room."""
        for word in speech:
            if word not in self.paths:
                raise NoWord(word)
            room = self.paths[word][room]
        return room

    def deed(self, speech):
        """The rooms to which the speech leads from 0, 1, and so on."""
        return tuple([self.leads(room, speech) for room in range(self.rooms())])
