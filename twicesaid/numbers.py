"""How many things can be said, the number of a speech among them, and the speech of a number [9], [40]."""

from twicesaid.errors import NoNumber
from twicesaid.halves import first_half, last_half
from twicesaid.shortest import laid
from twicesaid.speeches import without, words_of


def things(many):
    """f: how many things so many words mean, all of them said."""
    told = 1
    for unlike in range(1, many + 1):
        told = (unlike * told) ** 2
    return told


def half_many(many):
    """How many unlike halves, first ones or last ones, speeches of so many words have, one word at least."""
    return many * things(many - 1)


def meanings(words):
    return things(len(words))


def all_meanings(words):
    """How many things can be said with the words, not all of which need be said."""
    parts = 1
    told = 0
    for many in range(len(words) + 1):
        told += parts * things(many)
        # So many parts of the words have one word more.
        parts = parts * (len(words) - many) // (many + 1)
    return told


def number_of(speech):
    """The number of the speech among the meanings that have just its words."""
    if not speech:
        return 0
    words = words_of(speech)
    ahead, newest = first_half(speech)
    oldest, behind = last_half(speech)
    return half_number(words, newest, ahead) * half_many(len(words)) + half_number(words, oldest, behind)


def half_number(words, word, rest):
    """The number of a half, first or last, of a speech of the words: by its word, then by what the others mean."""
    return sorted(words).index(word) * things(len(words) - 1) + number_of(rest)


def speech_of(words, number):
    """The shortest speech that has just the words and this number."""
    if number >= meanings(words):
        raise NoNumber(number)
    if not words:
        return []
    begun, ended = divmod(number, half_many(len(words)))
    newest, ahead = half_of(words, begun)
    oldest, behind = half_of(words, ended)
    return laid(ahead + [newest], [oldest] + behind)


def half_of(words, number):
    """The half of this number: its word, and the shortest speech of the others."""
    place, rest = divmod(number, things(len(words) - 1))
    word = sorted(words)[place]
    return word, speech_of(without(words, [word]), rest)
