"""Strikes: what can be left out of a speech without changing what it means [20], [21]."""

from twicesaid.errors import NoStrike
from twicesaid.kinds import is_whole
from twicesaid.speeches import has_piece, stands_twice, turned


def is_strike(speech, thing):
    """Whether the thing, whatever it is, is a strike of the speech."""
    if not isinstance(thing, tuple) or len(thing) not in (3, 5):
        return False
    if not isinstance(thing[0], str) or not all([is_whole(part) for part in thing[1:]]):
        return False
    if len(thing) == 3:
        return thing[0] == "twice" and stands_twice(speech, thing[1], thing[2])
    return thing[0] == "between" and stands_between(speech, thing[1], thing[2], thing[3], thing[4])


def stands_between(speech, at, many, ahead, behind):
    """Whether the piece (at, many) stands between two pieces of the same words, and has none but these."""
    begin = at - ahead
    end = at + many
    if not has_piece(speech, begin, ahead) or not has_piece(speech, at, many) or not has_piece(speech, end, behind):
        return False
    if set(speech[begin:at]) != set(speech[end:end + behind]):
        return False
    # y has none but x's words just where x and y together have none but x's.
    return set(speech[begin:at]) == set(speech[begin:end])


def struck(speech, thing):
    """The speech behind a strike."""
    if not is_strike(speech, thing):
        raise NoStrike()
    # Of two pieces that are the same it is all one which is struck out: so both kinds strike (at, many).
    return speech[:thing[1]] + speech[thing[1] + thing[2]:]


def some_strike(speech):
    """A strike of the speech, or None where it has none."""
    strike = some_twice(speech)
    if strike is None:
        strike = some_between(speech)
    return strike


def strikes(speech):
    """Strikes, done one behind another, behind which there is none any more."""
    done = []
    left = speech
    strike = some_strike(left)
    while strike is not None:
        done.append(strike)
        left = struck(left, strike)
        strike = some_strike(left)
    return done


def some_twice(speech):
    for many in range(1, len(speech) // 2 + 1):
        for at in range(len(speech) - 2 * many + 1):
            if stands_twice(speech, at, many):
                return ("twice", at, many)
    return None


def some_between(speech):
    aheads = [lengths(turned(speech[:at])) for at in range(len(speech))]
    behinds = [lengths(speech[end:]) for end in range(len(speech))]
    for at in range(1, len(speech)):
        for end in range(at + 1, len(speech)):
            # Pieces of the same words have as many unlike ones; longer pieces of these have no other words.
            for ahead, behind in zip(aheads[at], behinds[end]):
                if stands_between(speech, at, end - at, ahead, behind):
                    return ("between", at, end - at, ahead, behind)
    return None


def lengths(row):
    """How many words, from the first on, it takes to have one unlike word, two, and so on."""
    seen = set()
    told = []
    for place, word in enumerate(row):
        if word not in seen:
            seen.add(word)
            told.append(place + 1)
    return told
