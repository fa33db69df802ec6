"""The rows of first halves and of last halves of a speech [30]."""

from twicesaid.shortest import shortest
from twicesaid.speeches import by_first, turned


def first_halves(speech):
    """By first places: each word with the shortest speech of what stands ahead of its first place."""
    return [(word, shortest(speech[:speech.index(word)])) for word in by_first(speech)]


def last_halves(speech):
    """By last places: each word with the shortest speech of what stands behind its last place."""
    # The shortest speech of a speech turned about is its shortest speech turned about.
    return turned([(word, turned(row)) for word, row in first_halves(turned(speech))])
