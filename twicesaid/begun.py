"""The meanings of some words that come on of a speech: how many, and numbered [41]."""

from twicesaid.errors import NoNumber, NoWay
from twicesaid.halves import first_half, last_half
from twicesaid.numbers import half_many, half_number, half_of
from twicesaid.shortest import laid, shortest
from twicesaid.speeches import without, words_of
from twicesaid.ways import comes_on


def begun_things(many, had):
    """How many meanings of so many words come on of a speech that has had of them."""
    if many == 0:
        return 1
    if many == had:
        return half_many(many)
    return (many - had) * begun_things(many - 1, had) * half_many(many)


def begun_many(words, speech):
    """How many meanings that have just all of the words come on of the speech."""
    return begun_things(len(words), len(words_of(speech)))


def begun_of(words, speech, number):
    """The shortest speech that has just the words, comes on of the speech, and has this number among those."""
    if number >= begun_many(words, speech):
        raise NoNumber(number)
    if not words:
        return []
    begun, ended = divmod(number, half_many(len(words)))
    ahead, newest = begun_half(words, speech, begun)
    oldest, behind = half_of(words, ended)
    return laid(ahead + [newest], [oldest] + behind)


def begun_half(words, speech, number):
    """The first half of this number: the shortest speech of what stands ahead, and the word."""
    lacking = without(sorted(words), speech)
    if not lacking:
        # More words behind a speech that has them all leave its first half as it is.
        ahead, newest = first_half(speech)
        return shortest(ahead), newest
    place, rest = divmod(number, begun_things(len(words) - 1, len(words) - len(lacking)))
    newest = lacking[place]
    return begun_of(without(words, [newest]), speech, rest), newest


def begun_number(words, speech, other):
    """The number of the other one, which has just the words, among those that come on of the speech."""
    if not comes_on(speech, other):
        raise NoWay()
    if not words:
        return 0
    oldest, behind = last_half(other)
    ended = half_number(words, oldest, behind)
    lacking = without(sorted(words), speech)
    if not lacking:
        return ended
    ahead, newest = first_half(other)
    left = without(words, [newest])
    begun = lacking.index(newest) * begun_many(left, speech) + begun_number(left, speech, ahead)
    return begun * half_many(len(words)) + ended
