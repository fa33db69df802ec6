"""Whether a house keeps the rule [61], and the table of its deeds, which can show it [62]."""

from twicesaid.errors import TooMany
from twicesaid.houses import are_rooms


def breaks(house):
    """None where the house keeps the rule, else the first list of the fewest words that breaks it, and where."""
    steps = steps_of(house)
    found = []
    for room in range(house.rooms()):
        for end in range(house.rooms()):
            row = first_breaking(steps, room, end)
            if row is not None:
                found.append(row)
    if len(found) == 0:
        return None
    first = min(found, key=lambda told: (len(told), told))
    return first, first_unlike(house.deed(first), house.deed(first + first))


def first_breaking(steps, room, end):
    """The first list of the fewest words that leads from the room to the end, but from the end elsewhere, or None."""
    # There may be too many deeds to go through; but a list breaks the rule by two rooms alone, and pairs are few.
    rows = {(room, end): []}
    pairs = [(room, end)]
    at = 0
    while at < len(pairs):
        one, other = pairs[at]
        for word, step in steps:
            pair = (step[one], step[other])
            if pair not in rows:
                rows[pair] = rows[(one, other)] + [word]
                pairs.append(pair)
            if pair[0] == end and pair[1] != end:
                return rows[pair]
        at += 1
    return None


def first_unlike(deed, other):
    """The least room from which the two deeds lead to unlike rooms; there is one."""
    room = 0
    while deed[room] == other[room]:
        room += 1
    return room


def steps_of(house):
    """The words of the house, sorted, each with its deed."""
    return [(word, house.deed([word])) for word in house.words()]


def done_behind(deed, step):
    """The deed of both, the step done behind the deed."""
    return tuple([step[room] for room in deed])


def table(house, *, most=400):
    """The unlike deeds of all lists of one word or more, as they are first met."""
    steps = [step for word, step in steps_of(house)]
    deeds = []
    for step in steps:
        meet(deeds, step, most)
    at = 0
    while at < len(deeds):
        for step in steps:
            meet(deeds, done_behind(deeds[at], step), most)
        at += 1
    return deeds


def meet(deeds, deed, most):
    """Puts the deed into the list of deeds, where it isn't in it yet."""
    if deed in deeds:
        return
    if len(deeds) >= most:
        raise TooMany(most)
    deeds.append(deed)


def is_table(house, thing):
    """Whether the thing, whatever it is, shows that the house keeps the rule."""
    if not isinstance(thing, list) or not all([is_deed(part, house.rooms()) for part in thing]):
        return False
    held = {deed: True for deed in thing}
    if len(held) != len(thing):
        return False
    steps = [step for word, step in steps_of(house)]
    due = steps + [done_behind(deed, step) for deed in thing for step in steps]
    return all([deed in held for deed in due]) and all([done_behind(deed, deed) == deed for deed in thing])


def is_deed(thing, rooms):
    """Whether the thing, whatever it is, could be a deed in a house of so many rooms."""
    return isinstance(thing, tuple) and len(thing) == rooms and are_rooms(thing, rooms)
