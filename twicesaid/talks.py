"""Talks: what is said, who listens, and what they know by it [81], [82], [83]."""

from twicesaid.doors import door, is_shut
from twicesaid.errors import Known, NoListener, NoPlace, Nothing, TooMany, Unlike, Wrong
from twicesaid.kinds import are_words, is_number, is_speech, is_word
from twicesaid.shortest import alike, shortest
from twicesaid.speeches import within, without

MOST_LISTENERS = 8


def need(fits, at):
    """Refuses what was handed in at this place where it isn't as told."""
    if not fits:
        raise Wrong(at)


def need_names(name, other):
    need(is_word(name), 0)
    need(is_word(other), 1)


def need_slip(at, word):
    need(is_number(at), 0)
    need(is_word(word), 1)


def slipped(spoken, at, word):
    """What was said with the word put in behind the first at words."""
    if at > len(spoken):
        raise NoPlace(at)
    return within(spoken[:at] + [word] + spoken[at:])


def least_from(low, high, holds):
    """The least number from low on of which this holds; it holds of high, and of all above one of which it holds."""
    while low < high:
        middle = (low + high) // 2
        if holds(middle):
            high = middle
        else:
            low = middle + 1
    return low


class Talk:
    """What was said, and who listens to it."""

    def __init__(self):
        # The lists and dicts of a state are never changed, only replaced: so states kept for later stay what they were.
        self.spoken = []
        self.guests = {}
        self.past = []
        self.undone = []

    def done(self, spoken, guests):
        """Does a deed, behind which this was said and these listen."""
        self.past.append((self.spoken, self.guests))
        self.undone = []
        self.spoken = spoken
        self.guests = guests

    def come(self, name, *, deaf=()):
        need(is_word(name), 0)
        need(isinstance(deaf, tuple) and are_words(list(deaf)), 1)
        if name in self.guests:
            raise Known(name)
        if len(self.guests) >= MOST_LISTENERS:
            raise TooMany(MOST_LISTENERS)
        guests = dict(self.guests)
        guests[name] = (len(self.spoken), tuple(sorted(deaf)))
        self.done(self.spoken, guests)

    def go(self, name):
        need(is_word(name), 0)
        self.guest(name)
        self.done(self.spoken, {left: guest for left, guest in self.guests.items() if left != name})

    def say(self, word):
        need(is_word(word), 0)
        self.done(within(self.spoken + [word]), self.guests)

    def tell(self, speech):
        need(is_speech(speech), 0)
        self.done(within(self.spoken + speech), self.guests)

    def slip(self, at, word):
        need_slip(at, word)
        spoken = slipped(self.spoken, at, word)
        guests = {name: (since + 1 if since > at else since, deaf) for name, (since, deaf) in self.guests.items()}
        self.done(spoken, guests)

    def back(self):
        if len(self.past) == 0:
            raise Nothing()
        self.undone.append((self.spoken, self.guests))
        self.spoken, self.guests = self.past.pop()

    def again(self):
        if len(self.undone) == 0:
            raise Nothing()
        self.past.append((self.spoken, self.guests))
        self.spoken, self.guests = self.undone.pop()

    def said(self):
        return list(self.spoken)

    def listeners(self):
        """By names: tuples (name, since, deaf)."""
        return [(name, self.guests[name][0], self.guests[name][1]) for name in sorted(self.guests)]

    def guest(self, name):
        """How many words had been said when the listener came, and the words to which it is deaf."""
        if name not in self.guests:
            raise NoListener(name)
        return self.guests[name]

    def share(self, name, many):
        """What the listener heard of the first so many words said."""
        since, deaf = self.guest(name)
        return without(self.spoken[since:many], deaf)

    def heard(self, name):
        need(is_word(name), 0)
        return shortest(self.share(name, len(self.spoken)))

    def circles(self):
        """The names of those who heard what is alike, list by list."""
        found = {}
        for name in sorted(self.guests):
            found.setdefault(tuple(self.heard(name)), []).append(name)
        return sorted(found.values())

    def later_since(self, name, other):
        """How many words had been said when both had come; refused where they don't hear the same words."""
        since, deaf = self.guest(name)
        after, lacked = self.guest(other)
        if deaf != lacked:
            raise Unlike()
        return max(since, after)

    def door(self, name, other):
        """How the two stand by what they heard."""
        need_names(name, other)
        self.later_since(name, other)
        return door(self.heard(name), self.heard(other))

    def shared(self, name, other, many):
        """Whether what the two heard of the first so many words is alike."""
        return alike(self.share(name, many), self.share(other, many))

    def since(self, name, other):
        """How many words had been said when the two came to have heard what is alike, or None."""
        need_names(name, other)
        low, high = self.later_since(name, other), len(self.spoken)
        if not self.shared(name, other, high):
            return None
        # Whoever is alike stays so, whatever is said.
        return least_from(low, high, lambda many: self.shared(name, other, many))

    def tried(self, at, word):
        """What would come of a slip: ("alike", k), ("open", row) or ("shut", k)."""
        need_slip(at, word)
        one, other = self.spoken, slipped(self.spoken, at, word)
        told = door(one, other)
        # The word put in stands behind the first at words, so other is ahead by one word from there on.
        if told[0] == "alike":
            return "alike", least_from(at, len(one), lambda many: alike(one[:many], other[:many + 1]))
        if told[0] == "shut":
            return "shut", least_from(at, len(one), lambda many: is_shut(one[:many], other[:many + 1]))
        return told

    def copied(self):
        """A Talk that tells the same and goes on by itself."""
        talk = Talk()
        talk.spoken = self.spoken
        talk.guests = self.guests
        talk.past = list(self.past)
        talk.undone = list(self.undone)
        return talk
