"""What listeners of some words hear alike, how many things they tell apart, and the least who hears two unlike."""

from twicesaid.shortest import alike, shortest
from twicesaid.speeches import words_of


def choices(words, many):
    """All lists of so many of the words, in the words' own order, the first ones ahead."""
    if many == 0:
        return [[]]
    told = []
    for at, word in enumerate(words):
        told.extend([[word] + rest for rest in choices(words[at + 1:], many - 1)])
    return told


def heard_by(speech, words):
    """What a listener of just these words hears of the speech."""
    return [word for word in speech if word in words]


def heard_alike(one, other, words):
    return alike(heard_by(one, words), heard_by(other, words))


def alike_to(one, other, hears):
    """Whether the two are alike to all listeners of so many of the words of both."""
    words = words_of(one + other)
    many = min(hears, len(words))
    return all([heard_alike(one, other, chosen) for chosen in choices(words, many)])


def heard_many(many, hears):
    """How many unlike things all listeners of so many words hear of the meanings that have just many words."""
    return heard_halves(many, hears) ** 2


def heard_halves(many, hears):
    """T: how many unlike first halves, or last halves, they hear."""
    if many <= 1 or hears == 1:
        return 1
    # Who hears more words than there are hears no more than all of them.
    hears = min(hears, many)
    return many * heard_halves(many - 1, hears) * heard_halves(many - 1, hears - 1)


def least_listener(one, other):
    """The least number of words by which a listener hears the two unlike, and the first such words, or None."""
    words = words_of(one + other)
    # Whoever is deaf hears like speeches alike, so the shortest ones do.
    begun, ended = shortest(one), shortest(other)
    for many in range(1, len(words) + 1):
        for chosen in choices(words, many):
            if not heard_alike(begun, ended, chosen):
                return many, chosen
    return None
