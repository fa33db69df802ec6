"""How two speeches stand as talks that grow by the same words from now on: alike, open or shut [80]."""

from twicesaid.ears import kept_ear
from twicesaid.shortest import alike, joined, shortest
from twicesaid.speeches import words_of
from twicesaid.ways import comes_on, on

# Up to so many unlike words the first row of the fewest words is promised.
MOST_SEARCHED = 4


def door(one, other):
    """("alike",), ("open", row) or ("shut", house, room)."""
    if alike(one, other):
        return ("alike",)
    if comes_on(one, other):
        return "open", opening(one, other)
    if comes_on(other, one):
        return "open", opening(other, one)
    house, room = kept_ear(one, other)
    return "shut", house, room


def is_shut(one, other):
    """Whether the two never mean the same, whatever is said behind both."""
    return not comes_on(one, other) and not comes_on(other, one)


def opening(u, v):
    """A row behind which u and v, which comes on of it, are alike."""
    words = words_of(v)
    if words_of(u) == words and len(words) <= MOST_SEARCHED:
        return first_row(shortest(u), shortest(v), words)
    # Behind u the row means v; and behind v it is what was said last, said twice.
    return on(u, v)


def first_row(u, v, words):
    """The first list of the fewest of the words behind which u and v, of just these words, are alike."""
    rows = [[]]
    found = []
    # v comes on of u, so both begin alike, and behind all of the words they end alike: the search is short.
    while len(found) == 0:
        rows = [row + [word] for row in rows for word in words]
        found = [row for row in rows if joined(u, row) == joined(v, row)]
    return found[0]
