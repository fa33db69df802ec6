"""The two halves of a speech [30]."""

from twicesaid.errors import NoWords
from twicesaid.speeches import by_first, turned


def first_half(speech):
    """(p, a): a is the last of the words to come up, p what stands ahead of its first place."""
    if not speech:
        raise NoWords()
    newest = by_first(speech)[-1]
    return speech[:speech.index(newest)], newest


def last_half(speech):
    """(b, s): b is the first of the words to be said for the last time, s what stands behind that place."""
    behind, oldest = first_half(turned(speech))
    return oldest, turned(behind)
