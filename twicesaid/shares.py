"""What whoever went early, or came late, may have heard of something: how many, and numbered [52], [53]."""

from twicesaid.errors import NoNumber, NoWay
from twicesaid.halves import first_half, last_half
from twicesaid.numbers import half_many, half_number, half_of
from twicesaid.rows import first_halves, last_halves
from twicesaid.shortest import laid
from twicesaid.speeches import by_first, by_last, turned, words_of
from twicesaid.ways import comes_ahead, comes_on


def shares_upto(many):
    """How many early ones, or late ones, there are that have at most so many unlike words."""
    return sum([half_many(unlike) for unlike in range(1, many + 1)])


def early_many(v):
    return shares_upto(len(words_of(v)))


def late_many(v):
    return shares_upto(len(words_of(v)))


def sized(number):
    """How many unlike words the early, or the late, one of this number has, and its number among those."""
    many = 1
    while number >= shares_upto(many):
        many += 1
    return many, number - shares_upto(many - 1)


def early_of(v, number):
    """The shortest speech of the early one of v that has this number."""
    if number >= early_many(v):
        raise NoNumber(number)
    many, rest = sized(number)
    newest, ahead = first_halves(v)[many - 1]
    oldest, behind = half_of(by_first(v)[:many], rest)
    return laid(ahead + [newest], [oldest] + behind)


def late_of(v, number):
    """The shortest speech of the late one of v that has this number."""
    if number >= late_many(v):
        raise NoNumber(number)
    many, rest = sized(number)
    oldest, behind = turned(last_halves(v))[many - 1]
    newest, ahead = half_of(turned(by_last(v))[:many], rest)
    return laid(ahead + [newest], [oldest] + behind)


def early_number(v, speech):
    """The number of the speech among the early ones of v."""
    # Silence comes on to anything, but whoever heard nothing has no share.
    if not speech or not comes_on(speech, v):
        raise NoWay()
    words = words_of(speech)
    oldest, behind = last_half(speech)
    return shares_upto(len(words) - 1) + half_number(words, oldest, behind)


def late_number(v, speech):
    """The number of the speech among the late ones of v."""
    if not speech or not comes_ahead(speech, v):
        raise NoWay()
    words = words_of(speech)
    ahead, newest = first_half(speech)
    return shares_upto(len(words) - 1) + half_number(words, newest, ahead)


def common_firsts(one, other):
    """How many entries, from the first on, are the same in both rows of first halves."""
    return same_many(first_halves(one), first_halves(other))


def common_lasts(one, other):
    """How many entries, from the last on, are the same in both rows of last halves."""
    return same_many(turned(last_halves(one)), turned(last_halves(other)))


def same_many(row, line):
    """How many things, from the first on, are the same in both lists."""
    many = 0
    for thing, like in zip(row, line):
        if thing != like:
            return many
        many += 1
    return many
