"""What is told of one speech [11], and the rule itself: doubled and undoubled [12]."""

from twicesaid.errors import NoPiece, NotTwice, TooLong, TooMany
from twicesaid.kinds import LONGEST_SPEECH, MOST_UNLIKE


def words_of(speech):
    """Its words, each once, sorted."""
    return sorted(set(speech))


def by_first(speech):
    """Its words, each once, the one whose first place is the least ahead."""
    return sorted(words_of(speech), key=lambda word: speech.index(word))


def by_last(speech):
    """Its words, each once, the one whose last place is the least ahead."""
    # Last places are first places of the speech turned about, counted from the end.
    return turned(by_first(turned(speech)))


def turned(speech):
    return speech[::-1]


def without(speech, words):
    """The speech as they hear it who are deaf to the words."""
    return [word for word in speech if word not in words]


def replaced(speech, table):
    """The speech with the table's speeches in the places of its keys."""
    told = []
    for word in speech:
        told.extend(table.get(word, [word]))
    return within(told)


def within(told):
    """The list of words itself, refused where it is too much for a speech."""
    if len(set(told)) > MOST_UNLIKE:
        raise TooMany(MOST_UNLIKE)
    if len(told) > LONGEST_SPEECH:
        raise TooLong(LONGEST_SPEECH)
    return told


def has_piece(speech, at, many):
    """Whether (at, many), of whole numbers, is a piece of the speech."""
    return at >= 0 and many >= 1 and at + many <= len(speech)


def stands_twice(speech, at, many):
    """Whether the pieces (at, many) and (at + many, many) are there, and the same."""
    # Side by side the two are a piece of twice as many words.
    if not has_piece(speech, at, 2 * many):
        return False
    return speech[at:at + many] == speech[at + many:at + 2 * many]


def doubled(speech, at, many):
    """The speech with the piece (at, many) standing twice in the place of once."""
    if not has_piece(speech, at, many):
        raise NoPiece(at)
    if len(speech) + many > LONGEST_SPEECH:
        raise TooLong(LONGEST_SPEECH)
    return speech[:at + many] + speech[at:]


def single(speech, at, many):
    """The speech with the piece (at, many) standing once in the place of twice."""
    if not stands_twice(speech, at, many):
        raise NotTwice(at)
    return speech[:at] + speech[at + many:]
