"""The kinds of things [2], told of whatever is handed in [10]."""

LONGEST_WORD = 8
LONGEST_SPEECH = 300
MOST_UNLIKE = 6


def is_whole(thing):
    """Whether it is a whole number: Python counts truths as ints, the document doesn't."""
    return isinstance(thing, int) and not isinstance(thing, bool)


def is_number(thing):
    return is_whole(thing) and thing >= 0


def is_word(thing):
    if not isinstance(thing, str):
        return False
    return 1 <= len(thing) <= LONGEST_WORD and all(["a" <= sign <= "z" for sign in thing])


def is_speech(thing):
    if not isinstance(thing, list) or len(thing) > LONGEST_SPEECH:
        return False
    # The set is made of words alone: other things may be such as no set can hold.
    return all([is_word(part) for part in thing]) and len(set(thing)) <= MOST_UNLIKE


def are_words(thing):
    if not isinstance(thing, list) or len(thing) > MOST_UNLIKE:
        return False
    return all([is_word(part) for part in thing]) and len(set(thing)) == len(thing)
