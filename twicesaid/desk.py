"""A Desk keeps one Talk and is told rows of text: deeds, and questions which it answers by texts [92]."""

from twicesaid.errors import NoLine
from twicesaid.fours import four
from twicesaid.kinds import MOST_UNLIKE, are_words, is_word
from twicesaid.numbers import number_of, speech_of
from twicesaid.shortest import shortest
from twicesaid.speeches import words_of
from twicesaid.talks import Talk
from twicesaid.texts import SILENCE, is_figures, is_shown_speech, show_speech, speech_by
from twicesaid.ways import ahead, on

DONE = "ok"


def need(fits):
    """Refuses a row that is none."""
    if not fits:
        raise NoLine()


def one_word(parts):
    need(len(parts) == 1 and is_word(parts[0]))
    return parts[0]


def two_words(parts):
    need(len(parts) == 2 and is_word(parts[0]) and is_word(parts[1]))
    return parts[0], parts[1]


def number_and_word(parts):
    need(len(parts) == 2 and is_figures(parts[0]) and is_word(parts[1]))
    return int(parts[0]), parts[1]


def one_speech(parts):
    need(is_shown_speech(parts))
    return speech_by(parts)


def two_speeches(parts):
    need(parts.count("/") == 1)
    at = parts.index("/")
    one, other = one_speech(parts[:at]), one_speech(parts[at + 1:])
    need(len(words_of(one + other)) <= MOST_UNLIKE)
    return one, other


def say_come(talk, parts):
    if len(parts) == 1:
        talk.come(one_word(parts))
    else:
        need(len(parts) > 2 and is_word(parts[0]) and parts[1] == "deaf" and are_words(parts[2:]))
        talk.come(parts[0], deaf=tuple(parts[2:]))
    return DONE


def say_go(talk, parts):
    talk.go(one_word(parts))
    return DONE


def say_say(talk, parts):
    talk.say(one_word(parts))
    return DONE


def say_tell(talk, parts):
    talk.tell(one_speech(parts))
    return DONE


def say_slip(talk, parts):
    at, word = number_and_word(parts)
    talk.slip(at, word)
    return DONE


def say_back(talk, parts):
    need(parts == [])
    talk.back()
    return DONE


def say_again(talk, parts):
    need(parts == [])
    talk.again()
    return DONE


def say_said(talk, parts):
    need(parts == [])
    return show_speech(talk.said())


def say_heard(talk, parts):
    return show_speech(talk.heard(one_word(parts)))


def say_circles(talk, parts):
    need(parts == [])
    circles = talk.circles()
    return parted(circles) if circles else SILENCE


def parted(rows):
    """The lists of words, one behind another, in one row."""
    return ", ".join([show_speech(row) for row in rows])


def say_door(talk, parts):
    name, other = two_words(parts)
    told = talk.door(name, other)
    return "open " + show_speech(told[1]) if told[0] == "open" else told[0]


def say_since(talk, parts):
    name, other = two_words(parts)
    many = talk.since(name, other)
    return SILENCE if many is None else str(many)


def say_tried(talk, parts):
    at, word = number_and_word(parts)
    name, told = talk.tried(at, word)
    return name + " " + (show_speech(told) if name == "open" else str(told))


def say_short(talk, parts):
    return show_speech(shortest(one_speech(parts)))


def say_on(talk, parts):
    u, v = two_speeches(parts)
    return show_speech(on(u, v))


def say_ahead(talk, parts):
    u, v = two_speeches(parts)
    return show_speech(ahead(u, v))


def say_number(talk, parts):
    return str(number_of(one_speech(parts)))


def say_speech(talk, parts):
    need(len(parts) > 0 and is_figures(parts[0]) and are_words(parts[1:]))
    return show_speech(speech_of(parts[1:], int(parts[0])))


def say_four(talk, parts):
    return parted(four(one_speech(parts)))


ROWS = {
    "come": say_come, "go": say_go, "say": say_say, "tell": say_tell, "slip": say_slip, "back": say_back,
    "again": say_again, "said": say_said, "heard": say_heard, "circles": say_circles, "door": say_door,
    "since": say_since, "tried": say_tried, "short": say_short, "on": say_on, "ahead": say_ahead,
    "number": say_number, "speech": say_speech, "four": say_four,
}


class Desk:
    """One Talk, told and asked by rows."""

    def __init__(self):
        self.talk = Talk()

    def say(self, row):
        """What the row is answered with."""
        need(isinstance(row, str))
        parts = row.split(" ")
        if parts == ["new"]:
            self.talk = Talk()
            return DONE
        need(parts[0] in ROWS)
        action = ROWS[parts[0]]
        return action(self.talk, parts[1:])
