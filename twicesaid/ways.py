"""Whether one speech comes of another by saying more, and the fewest words that do it [6], [50], [51]."""

from twicesaid.errors import NoWay
from twicesaid.shortest import alike, joined, shortest
from twicesaid.speeches import turned


def comes_on(u, v):
    """Whether u means v with some words said behind it."""
    return alike(u + v, v)


def comes_ahead(u, v):
    """Whether u means v with some words said ahead of it."""
    return alike(v + u, v)


def on(u, v):
    """The fewest words that, said behind u, mean v."""
    if not comes_on(u, v):
        raise NoWay()
    begun = shortest(u)
    whole = shortest(v)
    at = len(whole)
    # An end of the whole that does it there is: behind u the whole itself means v.
    while joined(begun, whole[at:]) != whole:
        at -= 1
    return whole[at:]


def ahead(u, v):
    """The fewest words that, said ahead of u, mean v."""
    return turned(on(turned(u), turned(v)))
