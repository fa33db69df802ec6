import inspect
import itertools
import unittest

from tests.helper import NO_DEAF, NO_NUMBERS, NO_SPEECHES, NO_WORDS, WORDS, chance_meanings, long_speech
from tests.helper import speeches_upto, told_fresh
from twicesaid.doors import door
from twicesaid.ears import is_ear
from twicesaid.errors import Known, NoListener, NoPlace, Nothing, SaidError, TooLong, TooMany, Unlike, Wrong
from twicesaid.shortest import alike, shortest
from twicesaid.talks import Talk

NAMES = ["amy", "bob", "cid", "dan", "eva", "fay", "gil", "hal", "ida"]


def talk_of(speech, *arrivals):
    """A talk in which this is said; arrivals are (name, since) or (name, since, deaf)."""
    talk = Talk()
    for many in range(len(speech) + 1):
        for name, since, *deaf in arrivals:
            if since == many:
                talk.come(name, deaf=tuple(*deaf))
        if many < len(speech):
            talk.say(speech[many])
    return talk


def told_of(talk):
    """All that is told of a talk by itself."""
    return talk.said(), talk.listeners(), talk.circles()


def history(talk):
    """What is told of a talk on the way back to its beginning, and on the way again to the last that was undone."""
    rows = []
    for step in ("back", "again"):
        walker = talk.copied()
        try:
            while True:
                getattr(walker, step)()
                rows.append((walker.said(), walker.listeners()))
        except Nothing:
            rows.append(step)
    return talk.said(), talk.listeners(), rows


def shown(told):
    return (told[0], told[1].rows(), told[2]) if told[0] == "shut" and len(told) == 3 else told


class Case(unittest.TestCase):
    def refused(self, talk, expected, asked, *handed, **named):
        """The refusal is the one expected, with its field, and nothing is changed by it."""
        kept = history(talk)
        with self.assertRaises(SaidError) as caught:
            getattr(talk, asked)(*handed, **named)
        self.assertIs(type(caught.exception), type(expected), (asked, handed, named))
        self.assertEqual(vars(caught.exception), vars(expected), (asked, handed, named))
        self.assertEqual(history(talk), kept)


class Deeds(Case):
    """[4], [81]"""

    def test_nothing_is_said_at_first(self):
        talk = Talk()
        self.assertEqual(told_of(talk), ([], [], []))
        self.refused(talk, Nothing(), "back")
        self.refused(talk, Nothing(), "again")

    def test_deeds_tell_nothing(self):
        talk = Talk()
        for told in [talk.come("amy"), talk.come("bob", deaf=("ant",)), talk.go("bob"), talk.say("ant"),
                     talk.tell(["bee"]), talk.slip(0, "cow"), talk.back(), talk.again()]:
            self.assertIsNone(told)

    def test_come(self):
        talk = Talk()
        talk.come("bob")
        talk.say("ant")
        talk.come("amy", deaf=("cow", "ant"))
        talk.come("cid", deaf=())
        talk.come("dan", deaf=tuple(WORDS))
        self.assertEqual(talk.listeners(), [("amy", 1, ("ant", "cow")), ("bob", 0, ()), ("cid", 1, ()),
                                            ("dan", 1, tuple(WORDS))])

    def test_deaf_is_handed_in_by_its_name(self):
        with self.assertRaises(TypeError):
            Talk().come("amy", ("ant",))
        self.assertEqual(inspect.signature(Talk.come).parameters["deaf"].default, ())

    def test_who_comes_twice(self):
        talk = talk_of(["ant"], ("amy", 0))
        self.refused(talk, Known("amy"), "come", "amy")
        self.refused(talk, Known("amy"), "come", "amy", deaf=("bee",))
        talk.go("amy")
        talk.come("amy")
        self.assertEqual(talk.listeners(), [("amy", 1, ())])

    def test_eight_may_listen(self):
        talk = Talk()
        for name in NAMES[:8]:
            talk.come(name)
        self.refused(talk, TooMany(8), "come", "ida")
        # Known is due ahead of it.
        for name in NAMES[:8]:
            self.refused(talk, Known(name), "come", name)
        talk.go("cid")
        talk.come("ida")
        self.assertEqual([row[0] for row in talk.listeners()], ["amy", "bob", "dan", "eva", "fay", "gil", "hal", "ida"])
        self.refused(talk, TooMany(8), "come", "cid")

    def test_go(self):
        talk = talk_of(["ant", "bee"], ("amy", 0), ("bob", 1), ("cid", 2))
        self.refused(talk, NoListener("dan"), "go", "dan")
        talk.go("bob")
        self.assertEqual([row[0] for row in talk.listeners()], ["amy", "cid"])
        self.refused(talk, NoListener("bob"), "go", "bob")
        self.assertEqual(talk.said(), ["ant", "bee"])
        self.refused(Talk(), NoListener("amy"), "go", "amy")

    def test_say(self):
        talk = Talk()
        for many, word in enumerate(WORDS):
            talk.say(word)
            self.assertEqual(talk.said(), WORDS[:many + 1])
        talk.say("ant")
        self.assertEqual(talk.said(), WORDS + ["ant"])

    def test_seven_unlike_words(self):
        talk = talk_of(WORDS, ("amy", 0))
        for asked, handed in [("say", ["gnat"]), ("tell", [["gnat"]]), ("tell", [["ant", "gnat"]]),
                              ("slip", [0, "gnat"]), ("slip", [6, "gnat"]), ("tried", [3, "gnat"])]:
            self.refused(talk, TooMany(6), asked, *handed)
        talk = talk_of(WORDS[:4])
        self.refused(talk, TooMany(6), "tell", WORDS[4:] + ["gnat"])
        talk.tell(WORDS[4:])
        self.assertEqual(talk.said(), WORDS)

    def test_three_hundred_words(self):
        talk = Talk()
        talk.tell(["ant"] * 299)
        self.refused(talk, TooLong(300), "tell", ["ant", "bee"])
        talk.say("bee")
        for asked, handed in [("say", ["ant"]), ("tell", [["ant"]]), ("slip", [0, "ant"]), ("slip", [300, "cow"]),
                              ("tried", [150, "bee"])]:
            self.refused(talk, TooLong(300), asked, *handed)
        talk.tell([])
        self.assertEqual(talk.said(), ["ant"] * 299 + ["bee"])
        talk.back()
        self.assertEqual(len(talk.said()), 300)
        talk.back()
        self.assertEqual(len(talk.said()), 299)

    def test_too_many_is_due_ahead_of_too_long(self):
        talk = Talk()
        talk.tell(WORDS * 50)
        for asked, handed in [("say", ["gnat"]), ("tell", [["gnat"]]), ("tell", [["ant"] * 299 + ["gnat"]]),
                              ("slip", [0, "gnat"]), ("slip", [300, "gnat"]), ("tried", [300, "gnat"])]:
            self.refused(talk, TooMany(6), asked, *handed)
        self.refused(talk, TooLong(300), "say", "fox")
        self.refused(talk, NoPlace(301), "slip", 301, "gnat")

    def test_tell(self):
        talk = talk_of(["ant"], ("amy", 0))
        talk.tell(["bee", "bee", "cow"])
        self.assertEqual(talk.said(), ["ant", "bee", "bee", "cow"])
        talk.back()
        self.assertEqual(talk.said(), ["ant"])
        talk.again()
        self.assertEqual(talk.said(), ["ant", "bee", "bee", "cow"])

    def test_silence_is_a_deed(self):
        talk = talk_of(["ant"])
        talk.back()
        talk.tell([])
        self.refused(talk, Nothing(), "again")
        talk.back()
        self.assertEqual(talk.said(), [])
        self.refused(talk, Nothing(), "back")
        talk.again()
        self.refused(talk, Nothing(), "again")

    def test_slip(self):
        speech = ["ant", "bee", "cow"]
        for at in range(4):
            talk = talk_of(speech)
            talk.slip(at, "dog")
            self.assertEqual(talk.said(), speech[:at] + ["dog"] + speech[at:])

    def test_slip_and_who_came_where(self):
        """Ahead of, at and behind the places where listeners came."""
        arrivals = [("amy", 0), ("bob", 1, ("cow",)), ("cid", 2), ("dan", 3)]
        for at in range(4):
            talk = talk_of(["ant", "bee", "cow"], *arrivals)
            talk.slip(at, "dog")
            expected = [(name, since + (since > at), tuple(*deaf)) for name, since, *deaf in arrivals]
            self.assertEqual(talk.listeners(), expected)
            for name, since, *deaf in arrivals:
                self.assertEqual("dog" in talk.heard(name), since <= at)
        talk = talk_of([], ("amy", 0))
        talk.slip(0, "ant")
        self.assertEqual(told_of(talk), (["ant"], [("amy", 0, ())], [["amy"]]))
        self.assertEqual(talk.heard("amy"), ["ant"])

    def test_a_slip_where_fewer_were_said(self):
        for speech in ([], ["ant"], WORDS, WORDS * 50):
            talk = talk_of(speech, ("amy", 0))
            for at in (len(speech) + 1, len(speech) + 2, 301, 10 ** 59):
                if at > len(speech):
                    self.refused(talk, NoPlace(at), "slip", at, "ant")
                    # It is due ahead of too many and of too long.
                    self.refused(talk, NoPlace(at), "slip", at, "gnat")
                    self.refused(talk, NoPlace(at), "tried", at, "gnat")

    def test_back_and_again_of_each_deed(self):
        deeds = [("come", "cid"), ("come", "dan"), ("go", "amy"), ("say", "ant"), ("tell", ["bee", "ant"]),
                 ("tell", []), ("slip", 1, "dog"), ("slip", 0, "ant"), ("slip", 2, "bee")]
        for name, *handed in deeds:
            talk = talk_of(["ant", "bee"], ("amy", 0), ("bob", 1, ("ant",)))
            before = told_of(talk)
            getattr(talk, name)(*handed)
            after = told_of(talk)
            for _ in range(3):
                talk.back()
                self.assertEqual(told_of(talk), before)
                talk.again()
                self.assertEqual(told_of(talk), after)
            self.refused(talk, Nothing(), "again")

    def test_many_one_behind_another(self):
        talk = Talk()
        rows = [told_of(talk)]
        deeds = [("come", "amy"), ("say", "ant"), ("come", "bob"), ("tell", ["bee", "cow"]), ("slip", 1, "dog"),
                 ("go", "amy"), ("come", "amy"), ("tell", []), ("slip", 0, "bee"), ("go", "bob"), ("say", "cow"),
                 ("come", "cid")]
        for name, *handed in deeds:
            getattr(talk, name)(*handed)
            rows.append(told_of(talk))
        for _ in range(2):
            for row in rows[-2::-1]:
                talk.back()
                self.assertEqual(told_of(talk), row)
            self.refused(talk, Nothing(), "back")
            for row in rows[1:]:
                talk.again()
                self.assertEqual(told_of(talk), row)
            self.refused(talk, Nothing(), "again")

    def test_another_deed_behind_a_back(self):
        for name, *handed in [("come", "cid"), ("go", "amy"), ("say", "ant"), ("tell", ["bee"]), ("tell", []),
                              ("slip", 0, "dog")]:
            talk = talk_of(["ant", "bee", "cow"], ("amy", 0))
            talk.back()
            talk.back()
            getattr(talk, name)(*handed)
            self.refused(talk, Nothing(), "again")
            talk.back()
            self.assertEqual(talk.said(), ["ant"])
            talk.back()
            self.assertEqual(talk.said(), [])
            talk.again()
            talk.again()
            self.refused(talk, Nothing(), "again")

    def test_what_is_refused_leaves_what_may_be_done_again(self):
        talk = talk_of([*WORDS, "ant"], ("amy", 0))
        talk.back()
        for expected, name, *handed in [
                (TooMany(6), "say", "gnat"), (TooMany(6), "tell", ["gnat"]), (NoPlace(9), "slip", 9, "ant"),
                (Known("amy"), "come", "amy"), (NoListener("bob"), "go", "bob"), (Wrong(0), "say", None),
                (TooLong(300), "tell", ["ant"] * 295), (Wrong(1), "slip", 0, None)]:
            self.refused(talk, expected, name, *handed)
        talk.again()
        self.assertEqual(talk.said(), [*WORDS, "ant"])

    def test_questions_leave_what_may_be_done_again(self):
        talk = talk_of(["ant", "bee"], ("amy", 0), ("bob", 1))
        talk.back()
        kept = history(talk)
        talk.said(), talk.listeners(), talk.circles(), talk.heard("amy"), talk.copied()
        talk.door("amy", "bob"), talk.since("amy", "bob"), talk.tried(0, "cow")
        self.assertEqual(history(talk), kept)
        talk.again()
        self.assertEqual(talk.said(), ["ant", "bee"])


class Wrongs(Case):
    """[4], [81], [82], [83]"""

    def talks(self):
        """An empty one, a full one, and one in which something may be done again."""
        full = talk_of([], *[(name, 0) for name in NAMES[:8]])
        full.tell(WORDS * 50)
        undone = talk_of(["ant", "bee"], ("amy", 0), ("bob", 1, ("ant",)))
        undone.back()
        return [Talk(), full, undone]

    def test_one_word(self):
        for talk in self.talks():
            for thing in NO_WORDS:
                for asked in ("come", "go", "say", "heard"):
                    self.refused(talk, Wrong(0), asked, thing)

    def test_speeches(self):
        for talk in self.talks():
            for thing in NO_SPEECHES:
                self.refused(talk, Wrong(0), "tell", thing)

    def test_deaf(self):
        for talk in self.talks():
            for thing in NO_DEAF:
                # It is due ahead of Known and of TooMany, too.
                for name in ("amy", "ida"):
                    self.refused(talk, Wrong(1), "come", name, deaf=thing)
                self.refused(talk, Wrong(0), "come", "Amy", deaf=thing)
            self.refused(talk, Wrong(0), "come", "", deaf=("ant",))

    def test_two_names(self):
        for talk in self.talks():
            for thing in NO_WORDS:
                for asked in ("door", "since"):
                    self.refused(talk, Wrong(0), asked, thing, "amy")
                    self.refused(talk, Wrong(1), asked, "amy", thing)
                    self.refused(talk, Wrong(1), asked, "nobody", thing)
                    self.refused(talk, Wrong(0), asked, thing, thing)

    def test_a_place_and_a_word(self):
        for talk in self.talks():
            for asked in ("slip", "tried"):
                for thing in NO_NUMBERS:
                    self.refused(talk, Wrong(0), asked, thing, "ant")
                    self.refused(talk, Wrong(0), asked, thing, "gnat")
                    self.refused(talk, Wrong(0), asked, thing, None)
                for thing in NO_WORDS:
                    for at in (0, 1, 300, 301, 10 ** 59):
                        self.refused(talk, Wrong(1), asked, at, thing)

    def test_what_is_not_wrong(self):
        talk = Talk()
        talk.come("abcdefgh", deaf=("a", "z", "abcdefgh", "b", "c", "d"))
        talk.tell(["abcdefgh", "z"] * 150)
        self.assertEqual(talk.heard("abcdefgh"), [])
        talk.back()
        talk.tell([*WORDS] * 50)
        self.assertEqual(talk.said(), WORDS * 50)


class Told(Case):
    """[3], [82]"""

    def test_said(self):
        for speech in ([], ["ant"], ["ant"] * 3, WORDS * 50, long_speech(300)):
            talk = talk_of(speech)
            self.assertEqual(told_fresh(self, talk.said), speech)

    def test_listeners(self):
        talk = talk_of(["ant", "bee"], ("bob", 2, ("bee", "ant")), ("amy", 0), ("cid", 1, tuple(WORDS[::-1])))
        self.assertEqual(told_fresh(self, talk.listeners),
                         [("amy", 0, ()), ("bob", 2, ("ant", "bee")), ("cid", 1, tuple(WORDS))])
        self.assertTrue(all(type(row) is tuple and type(row[2]) is tuple for row in talk.listeners()))

    def test_heard(self):
        speech = long_speech(60, 4)
        arrivals = [("amy", 0), ("bob", 0, ("ant",)), ("cid", 20), ("dan", 20, ("bee", "cow")), ("eva", 60),
                    ("fay", 59), ("gil", 0, tuple(WORDS)), ("hal", 30, ("gnat",))]
        talk = talk_of(speech, *arrivals)
        for name, since, *deaf in arrivals:
            expected = shortest([word for word in speech[since:] if word not in tuple(*deaf)])
            self.assertEqual(told_fresh(self, talk.heard, name), expected)
        self.assertEqual(talk.heard("eva"), [])
        self.assertEqual(talk.heard("gil"), [])
        self.refused(talk, NoListener("ida"), "heard", "ida")
        self.refused(Talk(), NoListener("amy"), "heard", "amy")

    def test_heard_is_the_shortest(self):
        talk = talk_of(["ant", "bee", "ant", "bee", "bee"], ("amy", 0), ("bob", 1), ("cid", 4))
        self.assertEqual([talk.heard(name) for name in ("amy", "bob", "cid")],
                         [["ant", "bee"], ["bee", "ant", "bee"], ["bee"]])

    def test_circles(self):
        self.assertEqual(told_fresh(self, Talk().circles), [])
        talk = talk_of(["ant", "bee", "ant", "bee"], ("dan", 0), ("amy", 2), ("cid", 3), ("bob", 1),
                       ("eva", 1, ("ant",)), ("fay", 4), ("gil", 0, ("bee", "ant")), ("hal", 0, ("cow",)))
        self.assertEqual(told_fresh(self, talk.circles),
                         [["amy", "dan", "hal"], ["bob"], ["cid", "eva"], ["fay", "gil"]])
        talk.say("cow")
        self.assertEqual(talk.circles(), [["amy", "dan"], ["bob"], ["cid", "eva"], ["fay", "gil"], ["hal"]])

    def test_circles_by_heard(self):
        for seed in range(10):
            arrivals = [(name, at * at, ("ant",) * (at % 2)) for at, name in enumerate(NAMES[:7])]
            talk = talk_of(long_speech(40, 3, seed), *arrivals)
            heard = {name: talk.heard(name) for name in NAMES[:7]}
            expected = []
            for row in heard.values():
                circle = [name for name in NAMES[:7] if alike(heard[name], row)]
                if circle not in expected:
                    expected.append(circle)
            self.assertEqual(talk.circles(), sorted(expected))

    def looked_at(self, talk, name, other):
        """What a door tells is what it tells of what both heard."""
        told = talk.door(name, other)
        one, two = talk.heard(name), talk.heard(other)
        expected = door(one, two)
        self.assertEqual(told[0], expected[0])
        if told[0] == "shut":
            self.assertTrue(is_ear(one, two, told[1:]))
        elif told[0] == "open":
            self.assertTrue(alike(one + told[1], two + told[1]))
            if set(one) == set(two) and len(set(one)) <= 4:
                self.assertEqual(told, expected)
        else:
            self.assertEqual(told, ("alike",))
        told_fresh(self, lambda u, v: shown(talk.door(u, v)), name, other)
        return told

    def test_door(self):
        talk = talk_of(["ant", "bee", "ant"], ("amy", 0), ("bob", 1), ("cid", 2), ("dan", 3), ("eva", 2))
        self.assertEqual(self.looked_at(talk, "amy", "amy"), ("alike",))
        self.assertEqual(self.looked_at(talk, "cid", "eva"), ("alike",))
        self.assertEqual(self.looked_at(talk, "amy", "bob")[0], "shut")
        self.assertEqual(self.looked_at(talk, "amy", "cid")[0], "open")
        self.assertEqual(self.looked_at(talk, "dan", "amy")[0], "open")
        talk = talk_of(["ant", "bee", "ant", "bee"], ("amy", 0), ("bob", 2))
        talk.say("ant")
        self.assertEqual(self.looked_at(talk, "bob", "amy"), ("alike",))

    def test_door_of_the_deaf(self):
        """By the words alone that they hear."""
        talk = talk_of(["cow", "ant", "bee", "cow", "ant"], ("amy", 0, ("cow",)), ("bob", 4, ("cow",)), ("cid", 0))
        self.assertEqual(talk.door("amy", "bob")[0], "open")
        self.assertLessEqual(set(talk.door("amy", "bob")[1]), {"ant", "bee"})
        talk.say("cow")
        self.assertEqual(self.looked_at(talk, "amy", "bob")[0], "open")
        talk = talk_of(["ant", "bee"], ("amy", 0, ("ant", "bee")), ("bob", 2, ("bee", "ant")))
        self.assertEqual(self.looked_at(talk, "amy", "bob"), ("alike",))

    def test_door_by_chance(self):
        met = set()
        for seed in range(12):
            for deaf in ((), ("ant",), ("bee", "fox")):
                speech = long_speech(30, 2 + seed % 5, seed)
                talk = talk_of(speech, ("amy", 0, deaf), ("bob", seed, deaf), ("cid", 2 * seed, deaf),
                               ("dan", 29, deaf))
                for name, other in itertools.product(NAMES[:4], repeat=2):
                    met.add(self.looked_at(talk, name, other)[0])
        self.assertEqual(met, {"alike", "open", "shut"})

    def since_by_going_through(self, talk, name, other):
        rows = {row[0]: row for row in talk.listeners()}
        (_, since, deaf), (_, after, _) = rows[name], rows[other]

        def alike_behind(many):
            return alike(*[[word for word in talk.said()[begin:many] if word not in deaf] for begin in (since, after)])

        if not alike_behind(len(talk.said())):
            return None
        return min(many for many in range(max(since, after), len(talk.said()) + 1) if alike_behind(many))

    def test_since(self):
        talk = talk_of(["ant", "bee", "ant", "bee", "cow"], ("amy", 0), ("bob", 2), ("cid", 1), ("dan", 5), ("eva", 5))
        self.assertEqual(talk.since("amy", "bob"), 4)
        self.assertEqual(talk.since("bob", "amy"), 4)
        self.assertIsNone(talk.since("amy", "cid"))
        self.assertIsNone(talk.since("amy", "dan"))
        # At the greater one of their since.
        self.assertEqual(talk.since("dan", "eva"), 5)
        self.assertEqual(talk.since("amy", "amy"), 0)
        self.assertEqual(talk.since("bob", "bob"), 2)
        talk.say("ant")
        self.assertEqual(talk.since("dan", "eva"), 5)

    def test_since_of_silence(self):
        talk = talk_of(["ant", "ant", "bee"], ("amy", 0, ("ant",)), ("bob", 2, ("ant",)), ("cid", 3, ("ant",)))
        self.assertEqual(talk.since("amy", "bob"), 2)
        self.assertIsNone(talk.since("amy", "cid"))
        talk.say("bee")
        self.assertEqual(talk.since("cid", "amy"), 4)

    def test_since_by_chance(self):
        met = set()
        for seed in range(40):
            for deaf in ((), ("bee",)):
                unlike = 1 + seed % 4
                period = long_speech(3 + seed % 4, unlike, seed)
                speech = (period * 5 + long_speech(seed, unlike, seed))[:30]
                places = (0, len(period), 2 * len(period), 5, len(speech))
                arrivals = [(name, at, deaf) for name, at in zip(NAMES, places) if at <= len(speech)]
                talk = talk_of(speech, *arrivals)
                for name, other in itertools.product([row[0] for row in arrivals], repeat=2):
                    expected = self.since_by_going_through(talk, name, other)
                    self.assertEqual(talk.since(name, other), expected)
                    rows = {row[0]: row[1] for row in talk.listeners()}
                    both = max(rows[name], rows[other])
                    met.add("none" if expected is None else "late" if expected > both else "once")
        self.assertEqual(met, {"none", "late", "once"})

    def test_refusals_of_two(self):
        talk = talk_of(["ant"], ("amy", 0), ("bob", 0, ("ant",)), ("cid", 0, ("bee",)), ("dan", 1, ("ant",)))
        for asked in ("door", "since"):
            self.refused(talk, NoListener("xxx"), asked, "xxx", "yyy")
            self.refused(talk, NoListener("yyy"), asked, "amy", "yyy")
            self.refused(talk, NoListener("yyy"), asked, "yyy", "yyy")
            self.refused(talk, NoListener("xxx"), asked, "xxx", "amy")
            self.refused(talk, Unlike(), asked, "amy", "bob")
            self.refused(talk, Unlike(), asked, "bob", "amy")
            # They aren't deaf to the same words, though they heard the same.
            self.refused(talk, Unlike(), asked, "amy", "cid")
            self.refused(talk, Unlike(), asked, "bob", "cid")
            getattr(talk, asked)("bob", "dan")

    def test_who_is_gone_is_not_told_of(self):
        talk = talk_of(["ant"], ("amy", 0), ("bob", 0))
        talk.go("amy")
        for asked, handed in [("heard", ["amy"]), ("door", ["amy", "bob"]), ("door", ["bob", "amy"]),
                              ("since", ["bob", "amy"])]:
            self.refused(talk, NoListener("amy"), asked, *handed)
        self.assertEqual(talk.circles(), [["bob"]])

    def test_what_was_handed_in_may_be_changed_behind_the_call(self):
        """[3]"""
        talk = Talk()
        speech = ["ant", "bee"]
        talk.tell(speech)
        speech.append("cow")
        speech[0] = "dog"
        self.assertEqual(talk.said(), ["ant", "bee"])
        talk.said().append("cow")
        talk.come("amy")
        talk.listeners().append("bob")
        talk.circles()[0].append("bob")
        talk.heard("amy").append("cow")
        self.assertEqual(told_of(talk), (["ant", "bee"], [("amy", 2, ())], [["amy"]]))
        talk.back()
        talk.back()
        talk.again()
        self.assertEqual(talk.said(), ["ant", "bee"])


def tried_by_going_through(speech, at, word):
    """What a slip would bring about, word by word."""
    pairs = {many: (speech[:many], speech[:at] + [word] + speech[at:many]) for many in range(at, len(speech) + 1)}
    kinds = {many: door(*pair)[0] for many, pair in pairs.items()}
    last = kinds[len(speech)]
    if last == "alike":
        return ("alike", min(many for many in kinds if all(kinds[k] == "alike" for k in kinds if k >= many)))
    if last == "shut":
        return ("shut", min(many for many in kinds if kinds[many] == "shut"))
    return door(*pairs[len(speech)])


class Tried(Case):
    """[3], [83]"""

    def test_some(self):
        talk = talk_of(["ant", "bee"])
        # The same word again, at once and behind.
        self.assertEqual(talk.tried(0, "ant"), ("alike", 1))
        self.assertEqual(talk.tried(1, "ant"), ("alike", 1))
        self.assertEqual(talk.tried(1, "bee"), ("alike", 2))
        self.assertEqual(talk.tried(2, "bee"), ("alike", 2))
        self.assertEqual(talk.tried(2, "ant"), ("open", ["ant"]))
        self.assertEqual(talk.tried(0, "bee"), ("shut", 1))
        self.assertEqual(talk.tried(0, "cow"), ("shut", 1))
        self.assertEqual(talk.tried(1, "cow"), ("shut", 2))
        told = talk.tried(2, "cow")
        self.assertEqual(told[0], "open")
        self.assertTrue(alike(["ant", "bee"] + told[1], ["ant", "bee", "cow"] + told[1]))

    def test_where_nothing_was_said(self):
        self.assertEqual(told_fresh(self, Talk().tried, 0, "ant"), ("open", ["ant"]))
        self.refused(Talk(), NoPlace(1), "tried", 1, "ant")

    def test_all_short_ones(self):
        met = set()
        for speech in speeches_upto(WORDS[:3], 4):
            talk = talk_of(speech)
            for at in range(len(speech) + 1):
                for word in WORDS[:4]:
                    told = talk.tried(at, word)
                    expected = tried_by_going_through(speech, at, word)
                    self.looked_at(talk, at, word, told, expected)
                    met.add((told[0], told[1] > at) if told[0] != "open" else told[0])
        self.assertEqual(met, {"open", ("alike", False), ("alike", True), ("shut", True)})

    def looked_at(self, talk, at, word, told, expected):
        self.assertEqual(told[0], expected[0], (talk.said(), at, word))
        self.assertIs(type(told), tuple)
        if told[0] != "open":
            self.assertEqual(told, expected, (talk.said(), at, word))
            return
        other = talk.copied()
        other.slip(at, word)
        self.assertTrue(alike(talk.said() + told[1], other.said() + told[1]))
        self.assertLessEqual(set(told[1]), set(other.said()))
        self.assertLessEqual(len(told[1]), 100)
        if set(talk.said()) == set(other.said()) and len(set(other.said())) <= 4:
            self.assertEqual(told, expected)

    def test_long_ones(self):
        for seed in range(6):
            unlike = 2 + seed % 5
            speech = (long_speech(15, unlike, seed) + chance_meanings(unlike, 1, seed)[0])[:50]
            talk = talk_of(speech, ("amy", 0), ("bob", 9))
            kept = history(talk)
            for at in range(0, len(speech) + 1, 4):
                for word in WORDS[:unlike]:
                    self.looked_at(talk, at, word, talk.tried(at, word), tried_by_going_through(speech, at, word))
            self.assertEqual(history(talk), kept)

    def test_what_becomes_alike_late(self):
        speech = ["ant", "bee", "cow", "ant", "bee", "cow"]
        talk = talk_of(speech)
        for at, word in itertools.product(range(7), WORDS[:3]):
            self.assertEqual(talk.tried(at, word), tried_by_going_through(speech, at, word))
        self.assertEqual(talk.tried(3, "ant"), ("alike", 3 + 1))
        self.assertEqual(talk.tried(3, "bee"), ("alike", 6))

    def test_nothing_is_done(self):
        talk = talk_of(["ant", "bee", "cow"], ("amy", 0), ("bob", 2))
        talk.back()
        kept = history(talk)
        for at, word in itertools.product(range(3), WORDS):
            told_fresh(self, talk.tried, at, word)
        self.assertEqual(history(talk), kept)

    def test_299_words(self):
        talk = Talk()
        talk.tell(long_speech(299))
        for at in (0, 150, 299):
            self.looked_at(talk, at, "ant", talk.tried(at, "ant"), tried_by_going_through(talk.said(), at, "ant"))

    def test_refused_as_slip(self):
        talk = talk_of(WORDS)
        self.refused(talk, NoPlace(7), "tried", 7, "ant")
        self.refused(talk, NoPlace(7), "tried", 7, "gnat")
        self.refused(talk, TooMany(6), "tried", 6, "gnat")
        talk.tell(["ant"] * 294)
        self.refused(talk, TooLong(300), "tried", 0, "ant")
        self.refused(talk, TooMany(6), "tried", 0, "gnat")
        self.refused(talk, NoPlace(301), "tried", 301, "ant")

    def test_compared_with_a_copy_that_slipped(self):
        """The words are said one by one to the talk and to one with the word put in."""
        for seed in range(8):
            speech = long_speech(16, 3, seed)
            at, word = seed, WORDS[seed % 4]
            told = talk_of(speech).tried(at, word)
            one, other = talk_of(speech[:at], ("amy", 0)), talk_of(speech[:at], ("amy", 0))
            other.slip(at, word)
            kinds = [door(one.heard("amy"), other.heard("amy"))[0]]
            for said in speech[at:]:
                one.say(said)
                other.say(said)
                kinds.append(door(one.heard("amy"), other.heard("amy"))[0])
            self.assertEqual(told[0], kinds[-1])
            if told[0] in ("alike", "shut"):
                self.assertEqual(told[1], at + kinds.index(told[0]))
                self.assertEqual(set(kinds[told[1] - at:]), {told[0]})


class Copied(Case):
    """[3], [81], [82], [83]"""

    def test_it_tells_the_same(self):
        talk = talk_of(long_speech(20, 4), ("amy", 0), ("bob", 3, ("ant",)), ("cid", 9))
        talk.back()
        talk.back()
        other = talk.copied()
        self.assertIs(type(other), Talk)
        self.assertEqual(history(other), history(talk))
        self.assertEqual(shown(other.door("amy", "cid")), shown(talk.door("amy", "cid")))
        self.assertEqual(other.tried(4, "ant"), talk.tried(4, "ant"))
        self.assertEqual(other.since("amy", "cid"), talk.since("amy", "cid"))
        self.assertEqual(told_of(Talk().copied()), ([], [], []))

    def test_each_goes_on_by_itself(self):
        deeds = [("come", "dan"), ("go", "amy"), ("say", "ant"), ("tell", ["bee"]), ("slip", 0, "cow"), ("back",),
                 ("again",)]
        for name, *handed in deeds:
            talk = talk_of(["ant", "bee"], ("amy", 0), ("bob", 1))
            talk.back()
            other = talk.copied()
            kept = history(talk)
            getattr(other, name)(*handed)
            self.assertEqual(history(talk), kept)
            self.assertNotEqual(history(other), kept)
            kept = history(other)
            talk.say("dog")
            talk.go("amy")
            talk.back()
            self.assertEqual(history(other), kept)

    def test_all_may_be_taken_back_and_done_again_in_both(self):
        talk = talk_of(["ant", "bee", "cow"], ("amy", 1))
        talk.back()
        other = talk.copied()
        for one in (talk, other):
            one.again()
            self.assertEqual(one.said(), ["ant", "bee", "cow"])
            for expected in (["ant", "bee"], ["ant"], ["ant"], []):
                one.back()
                self.assertEqual(one.said(), expected)
            self.refused(one, Nothing(), "back")

    def test_a_copy_of_a_copy(self):
        talk = talk_of(["ant"])
        other = talk.copied()
        third = other.copied()
        other.say("bee")
        third.back()
        self.assertEqual([one.said() for one in (talk, other, third)], [["ant"], ["ant", "bee"], []])


class Model:
    """A talk kept as a row of words and of arrivals, in which whatever is told is looked up anew."""

    def __init__(self):
        self.row, self.past, self.undone = [], [], []

    def words(self):
        return [thing for thing in self.row if isinstance(thing, str)]

    def arrivals(self):
        return [thing for thing in self.row if not isinstance(thing, str)]

    def done(self, row):
        if len(set(thing for thing in row if isinstance(thing, str))) > 6:
            raise TooMany(6)
        if sum(isinstance(thing, str) for thing in row) > 300:
            raise TooLong(300)
        self.past.append(self.row)
        self.row, self.undone = row, []

    def come(self, name, *, deaf=()):
        if name in [arrival[0] for arrival in self.arrivals()]:
            raise Known(name)
        if len(self.arrivals()) == 8:
            raise TooMany(8)
        self.done(self.row + [(name, tuple(sorted(deaf)))])

    def go(self, name):
        if name not in [arrival[0] for arrival in self.arrivals()]:
            raise NoListener(name)
        self.done([thing for thing in self.row if isinstance(thing, str) or thing[0] != name])

    def say(self, word):
        self.done(self.row + [word])

    def tell(self, speech):
        self.done(self.row + speech)

    def slip(self, at, word):
        """Put in behind at words and all who came ahead of the next one."""
        if at > len(self.words()):
            raise NoPlace(at)
        places = [place for place, thing in enumerate(self.row) if isinstance(thing, str)] + [len(self.row)]
        self.done(self.row[:places[at]] + [word] + self.row[places[at]:])

    def back(self):
        if not self.past:
            raise Nothing()
        self.undone.append(self.row)
        self.row = self.past.pop()

    def again(self):
        if not self.undone:
            raise Nothing()
        self.past.append(self.row)
        self.row = self.undone.pop()

    def listeners(self):
        told = []
        for place, thing in enumerate(self.row):
            if not isinstance(thing, str):
                told.append((thing[0], sum(isinstance(other, str) for other in self.row[:place]), thing[1]))
        return sorted(told)

    def heard(self, name):
        place = [thing[0] if not isinstance(thing, str) else "" for thing in self.row].index(name)
        deaf = self.row[place][1]
        return shortest([thing for thing in self.row[place:] if isinstance(thing, str) and thing not in deaf])


class ByChance(Case):
    """[81], [82]: deeds one behind another, compared with a model."""

    def deeds(self, seed, many):
        for _ in range(many):
            picks = []
            for _ in range(4):
                seed = (seed * 1103515245 + 12345) % 2 ** 31
                picks.append(seed >> 12)
            kind, first, second, third = picks
            name = NAMES[first % 9]
            words = [*WORDS, "gnat"] if second % 12 == 0 else WORDS
            word = words[third % len(words)]
            deaf = tuple(WORDS[third % 6:][:second % 3])
            yield [("come", [name], {"deaf": deaf}), ("come", [name], {}), ("go", [name], {}), ("say", [word], {}),
                   ("tell", [long_speech(second % 5, 6, third)], {}), ("slip", [first % 12, word], {}),
                   ("slip", [first % 4, word], {}), ("back", [], {}), ("back", [], {}), ("again", [], {}),
                   ("say", [word], {}), ("come", [name], {"deaf": deaf[::-1]})][kind % 12]

    def outcome(self, thing, name, handed, named):
        try:
            return getattr(thing, name)(*handed, **named)
        except SaidError as refusal:
            return type(refusal), vars(refusal)

    def test_it(self):
        refusals = set()
        for seed in range(1, 9):
            talk, model = Talk(), Model()
            for name, handed, named in self.deeds(seed, 250):
                told = self.outcome(talk, name, handed, named)
                self.assertEqual(told, self.outcome(model, name, handed, named))
                refusals.add(told and told[0])
                self.assertEqual(talk.said(), model.words())
                self.assertEqual(talk.listeners(), model.listeners())
                for row in model.listeners():
                    self.assertEqual(talk.heard(row[0]), model.heard(row[0]))
        self.assertEqual(refusals, {None, Known, NoListener, NoPlace, Nothing, TooMany})


if __name__ == "__main__":
    unittest.main()
