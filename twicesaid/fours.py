"""The four of a speech: what all who are deaf to one word of it each hear alike with it [72]."""

from twicesaid.errors import TooFew
from twicesaid.halves import first_half, last_half
from twicesaid.shortest import laid, shortest
from twicesaid.speeches import words_of

LEAST_UNLIKE = 2

# A first half is handed on as (p, a), a last half as (b, s), with p and s shortest speeches; pieces of a shortest
# speech are shortest speeches themselves.


def four(speech):
    """The shortest speeches of the four meanings, sorted."""
    if len(words_of(speech)) < LEAST_UNLIKE:
        raise TooFew(LEAST_UNLIKE)
    whole = shortest(speech)
    first, last = first_half(whole), last_half(whole)
    return sorted([made(begun, ended) for begun in (first, first_twin(first)) for ended in (last, last_twin(last))])


def made(first, last):
    """The shortest speech that has these halves."""
    ahead, newest = first
    oldest, behind = last
    return laid(ahead + [newest], [oldest] + behind)


def first_twin(first):
    """The twin of a first half."""
    ahead, newest = first
    if len(words_of(ahead)) == 1:
        return [newest], ahead[0]
    return made(first_half(ahead), last_twin(last_half(ahead))), newest


def last_twin(last):
    """The twin of a last half."""
    oldest, behind = last
    if len(words_of(behind)) == 1:
        return behind[0], [oldest]
    return oldest, made(first_twin(first_half(behind)), last_half(behind))
