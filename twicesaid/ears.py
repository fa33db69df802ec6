"""Ears: small houses in which speeches that aren't alike are heard apart [63]."""

from twicesaid.houses import House, are_rooms
from twicesaid.rows import first_halves, last_halves
from twicesaid.shares import common_firsts, common_lasts
from twicesaid.shortest import alike
from twicesaid.speeches import turned, without, words_of
from twicesaid.tables import breaks

# Paths are a dict of words with the rooms to which they lead; words without a path leave each room as it is. Two
# speeches of which paths are told are led by them from the room 0 to unlike rooms.


def ear(one, other):
    """An ear of the two speeches, of just their words, or None where they are alike."""
    if alike(one, other):
        return None
    return house_by(paths_apart(one, other), one + other), 0


def kept_ear(one, other):
    """An ear of two speeches, neither of which comes on of the other: no word leaves the rooms to which they lead."""
    return house_by(early_paths(one, other), one + other), 0


def is_ear(one, other, thing):
    """Whether the thing, whatever it is, is an ear of the two speeches."""
    if not isinstance(thing, tuple) or len(thing) != 2 or not isinstance(thing[0], House):
        return False
    house, room = thing
    if not are_rooms([room], house.rooms()) or without(one + other, house.words()) != []:
        return False
    return breaks(house) is None and house.leads(room, one) != house.leads(room, other)


def house_by(paths, speech):
    """The house of the paths and of just the words of the speech."""
    still = list(range(rooms_in(paths)))
    return House([(word, paths.get(word, still)) for word in words_of(speech)])


def rooms_in(paths):
    """How many rooms the paths have."""
    return max([len(path) for path in paths.values()])


def paths_apart(one, other):
    """Paths for two speeches that aren't alike."""
    lacked = sorted(set(one) ^ set(other))
    if lacked:
        return {lacked[0]: [1, 1]}
    if common_lasts(one, other) < len(words_of(one)):
        return late_paths(one, other)
    return early_paths(one, other)


def late_paths(one, other):
    """Paths for two speeches of the same words whose rows of last halves are unlike."""
    at = common_lasts(one, other)
    word, behind = turned(last_halves(one))[at]
    rival, after = turned(last_halves(other))[at]
    if word != rival:
        return {word: [0, 0], rival: [1, 1]}
    # What is behind has like last halves, so its first halves are unlike; the word leads back to where these begin.
    paths = early_paths(behind, after)
    paths[word] = [0] * rooms_in(paths)
    return paths


def early_paths(one, other):
    """Paths for two speeches whose rows of first halves are unlike; no word leaves the rooms to which they lead."""
    at = common_firsts(one, other)
    word, ahead = first_halves(one)[at]
    rival, before = first_halves(other)[at]
    if word != rival:
        return {word: [1, 1, 2], rival: [2, 1, 2]}
    # What is ahead has like first halves, so its last halves are unlike; the word keeps for ever where these lead.
    paths = late_paths(ahead, before)
    many = rooms_in(paths)
    end = house_by(paths, ahead).leads(0, ahead)
    kept = [many, many + 1]
    told = {step: paths[step] + kept for step in paths}
    told[word] = [many if room == end else many + 1 for room in range(many)] + kept
    return told
