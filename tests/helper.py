"""What the tests of several modules need."""

import copy
import functools
import itertools

from twicesaid.numbers import speech_of
from twicesaid.shortest import shortest

WORDS = ["ant", "bee", "cow", "dog", "eel", "fox"]
# How many things none to six words mean, all of them said [9].
THINGS = [1, 1, 4, 144, 331776, 2751882854400, 272622932796264897576960000]


def speeches_upto(words, most):
    """All speeches of none to most words, made of these words, the short ones first."""
    return [list(row) for many in range(most + 1) for row in itertools.product(words, repeat=many)]


def long_speech(many, unlike=6, seed=1):
    """A speech of many words that looks like chance, but is the same each time."""
    speech = []
    for _ in range(many):
        seed = (seed * 1103515245 + 12345) % 2 ** 31
        speech.append(WORDS[(seed >> 16) % unlike])
    return speech


def far_numbers(many):
    """Some numbers below many: the first, the last, and others far apart."""
    chosen = {0, 1, many // 7, many // 3, many // 2, 5 * many // 8, many - 2, many - 1}
    return sorted(number for number in chosen if 0 <= number < many)


def told_fresh(case, asked, *handed):
    """What is told, having looked that asking changes nothing and tells a new list each time [3]."""
    kept = copy.deepcopy(handed)
    told = asked(*handed)
    again = asked(*handed)
    case.assertEqual(told, again)
    case.assertEqual(handed, kept, "what was handed in was changed")
    expected = copy.deepcopy(told)
    spoil_lists(told)
    case.assertEqual(again, expected, "a list that was told is not the asker's own")
    case.assertEqual(handed, kept, "a list that was told is one that was handed in")
    case.assertEqual(asked(*handed), expected, "a list that was told is kept by the program")
    return expected


def spoil_lists(thing):
    """Puts something into each list within."""
    if isinstance(thing, (list, tuple)):
        for part in thing:
            spoil_lists(part)
    if isinstance(thing, list):
        thing.append("spoilt")


def strikes_by_definition(speech):
    """All strikes of a speech, as the document defines them and without haste."""
    found = []
    size = len(speech)
    for at in range(size):
        for many in range(1, size - at + 1):
            y, rest = speech[at:at + many], speech[at + many:]
            if rest[:many] == y:
                found.append(("twice", at, many))
            for ahead in range(1, at + 1):
                for behind in range(1, len(rest) + 1):
                    x, z = speech[at - ahead:at], rest[:behind]
                    if set(x) == set(z) and set(y) <= set(x):
                        found.append(("between", at, many, ahead, behind))
    return found


def chance_numbers(most, many, seed=1):
    """Numbers below most that look like chance, but are the same each time."""
    told = []
    for _ in range(many):
        number = 0
        for _ in range(4):
            seed = (seed * 1103515245 + 12345) % 2 ** 31
            number = (number << 24) + (seed >> 7)
        told.append(number % most)
    return told


def chance_meanings(unlike, many, seed=1):
    """Shortest speeches, as a rule long ones, of so many unlike words."""
    return [speech_of(WORDS[:unlike], number) for number in chance_numbers(THINGS[unlike], many, seed)]


@functools.cache
def kept_meanings(many):
    rows = [part for size in range(many + 1) for part in itertools.combinations(WORDS[:many], size)]
    return tuple(tuple(speech_of(list(part), number)) for part in rows for number in range(THINGS[len(part)]))


def meanings_upto(many):
    """The shortest speeches of all things that can be said with the first so many words, silence first."""
    return [list(row) for row in kept_meanings(many)]


def near_pairs(unlike, many, seed=1):
    """Pairs of speeches of the same words that aren't alike; some of them differ in what is hard to hear only."""
    pairs = []
    things = THINGS[unlike]
    steps = [1, 2, 7, 144, things // unlike, things // 3 + 1, *chance_numbers(things, 4, seed + 5)]
    for at, number in enumerate(chance_numbers(things, many, seed)):
        other = (number + steps[at % len(steps)]) % things
        if other != number:
            pairs.append((speech_of(WORDS[:unlike], number), speech_of(WORDS[:unlike], other)))
    return pairs


def open_pairs(unlike, many, seed=1):
    """Pairs (u, v) that aren't alike, of which v comes on of u."""
    pairs = []
    for at, u in enumerate(chance_meanings(unlike, many, seed)):
        v = shortest(u + long_speech(1 + at % 9, unlike, seed + at))
        if u != v:
            pairs.append((u, v))
    return pairs


class Odd:
    """A thing that is none of the kinds; it is equal to no copy of itself."""


ODD = Odd()
NO_WORDS = [None, True, False, 0, 1, -1, 10 ** 59, "", " ", "Ant", "ANT", "ant ", " ant", "ant bee", "abcdefghi", "a1",
            "-", "a-b", "ant\n", "1", b"ant", b"", [], ["ant"], (), ("ant",), {}, {"ant": "ant"}, set(), ODD, Odd, str,
            len]
NO_NUMBERS = [None, True, False, -1, -2, -10 ** 59, "", "0", "1", "ant", b"0", [], [0], (), (0,), {}, {0: 0}, set(),
              ODD, Odd, int, len]
NO_SPEECHES = [None, True, False, 0, 1, "", "ant", "-", b"", (), ("ant",), {}, {"ant": "ant"}, set(), {"ant"}, ODD, Odd,
               list, [None], [""], ["Ant"], ["ant", 1], ["ant", True], ["ant", ["bee"]], [["ant"]], [("ant",)], [{}],
               ["ant bee"], ["ant"] * 301, ["abcdefghi"], [*WORDS, "gnat"], [ODD], [b"ant"], [[[[[]]]]]]
NO_DEAF = [None, True, False, 0, 1, "", "ant", b"", [], ["ant"], {}, {"ant": "ant"}, set(), {"ant"}, ODD, Odd, tuple,
           (None,), ("",), ("Ant",), ("ant", 1), (True,), (["ant"],), (("ant",),), ({},), ("ant bee",), ("ant", "ant"),
           ("ant", "bee", "ant"), ("abcdefghi",), (*WORDS, "gnat"), (ODD,), (b"ant",), ((((),),),)]
