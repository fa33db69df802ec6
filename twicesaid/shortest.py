"""The shortest speech of a meaning, and by it whether two speeches are alike [31]."""

from twicesaid.halves import first_half, last_half


def laid(one, other):
    """The two lists laid over one another by as many words as can be."""
    over = min(len(one), len(other))
    while one[len(one) - over:] != other[:over]:
        over -= 1
    return one + other[over:]


def shortest(speech):
    """The one shortest speech that means the same."""
    if not speech:
        return []
    ahead, newest = first_half(speech)
    oldest, behind = last_half(speech)
    return laid(shortest(ahead) + [newest], [oldest] + shortest(behind))


def alike(one, other):
    """Whether the two speeches mean the same."""
    return shortest(one) == shortest(other)


def joined(one, other):
    """The shortest speech of the one with the other behind it."""
    return shortest(one + other)


def most_words(many):
    """How many words the longest shortest speech of so many unlike words has."""
    most = 0
    for unlike in range(1, many + 1):
        # Both halves bring one word of their own; of one word, and of two, the two can't but overlap by one.
        most = 2 * most + (2 if unlike > 2 else 1)
    return most
