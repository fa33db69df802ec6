import unittest

from tests.helper import NO_SPEECHES, ODD, WORDS, Odd, chance_meanings, long_speech, open_pairs
from twicesaid.books import Book
from twicesaid.desk import Desk
from twicesaid.errors import Known, NoLine, NoListener, NoNumber, NoPlace, Nothing, NoWay, SaidError, TooFew, TooLong
from twicesaid.errors import TooMany, Unlike
from twicesaid.fours import four
from twicesaid.numbers import number_of, speech_of
from twicesaid.shortest import shortest
from twicesaid.talks import Talk
from twicesaid.texts import show_speech
from twicesaid.ways import ahead, on

KEYWORDS = ["come", "go", "say", "tell", "slip", "back", "again", "new", "said", "heard", "circles", "door", "since",
            "tried", "short", "on", "ahead", "number", "speech", "four", "deaf"]
SIX = " ".join(WORDS)
SEVEN = SIX + " gnat"
FULL = " ".join(WORDS * 50)


def desk_of(*rows):
    desk = Desk()
    for row in rows:
        desk.say(row)
    return desk


class Case(unittest.TestCase):
    def answers(self, desk, *pairs):
        for row, answer in pairs:
            told = desk.say(row)
            self.assertIs(type(told), str)
            self.assertEqual(told, answer, row)

    def state(self, desk):
        """What the desk tells of its talk, on the way back and again, too."""
        talk = desk.talk.copied()
        rows = [(talk.said(), talk.listeners())]
        undone = 0
        try:
            while True:
                talk.back()
                undone += 1
                rows.append((talk.said(), talk.listeners()))
        except Nothing:
            pass
        try:
            while True:
                talk.again()
                rows.append((talk.said(), talk.listeners()))
        except Nothing:
            return undone, rows

    def refused(self, desk, expected, row):
        kept = self.state(desk)
        with self.assertRaises(SaidError, msg=row) as caught:
            desk.say(row)
        self.assertIs(type(caught.exception), type(expected), row)
        self.assertEqual(vars(caught.exception), vars(expected), row)
        self.assertEqual(self.state(desk), kept)


class Deeds(Case):
    """[4], [92]"""

    def test_a_fresh_one(self):
        self.answers(Desk(), ("said", "-"), ("circles", "-"))
        self.refused(Desk(), Nothing(), "back")
        self.refused(Desk(), Nothing(), "again")

    def test_each_deed(self):
        desk = Desk()
        self.answers(desk, ("come amy", "ok"), ("come bob deaf cow ant", "ok"), ("say ant", "ok"),
                     ("tell bee ant", "ok"), ("said", "ant bee ant"), ("heard amy", "ant bee ant"),
                     ("heard bob", "bee"), ("slip 1 cow", "ok"), ("said", "ant cow bee ant"), ("back", "ok"),
                     ("said", "ant bee ant"), ("again", "ok"), ("said", "ant cow bee ant"), ("go amy", "ok"),
                     ("circles", "bob"), ("tell -", "ok"), ("back", "ok"), ("back", "ok"), ("circles", "amy, bob"),
                     ("new", "ok"), ("said", "-"), ("circles", "-"))
        self.assertEqual(desk_of("come bob deaf cow ant").talk.listeners(), [("bob", 0, ("ant", "cow"))])

    def test_new_leaves_nothing_to_take_back(self):
        desk = desk_of("say ant", "come amy", "back", "new")
        self.refused(desk, Nothing(), "back")
        self.refused(desk, Nothing(), "again")
        self.refused(desk, NoListener("amy"), "heard amy")

    def test_refusals_of_each_deed(self):
        desk = desk_of("come amy", "tell " + SIX,
                       *["come " + name for name in ("bob", "cid", "dan", "eva", "fay", "gil", "hal")])
        self.refused(desk, Known("amy"), "come amy")
        self.refused(desk, Known("amy"), "come amy deaf ant")
        self.refused(desk, TooMany(8), "come ida")
        self.refused(desk, TooMany(8), "come ida deaf ant bee")
        self.refused(desk, NoListener("ida"), "go ida")
        self.refused(desk, TooMany(6), "say gnat")
        self.refused(desk, TooMany(6), "tell ant gnat")
        self.refused(desk, TooMany(6), "slip 0 gnat")
        self.refused(desk, NoPlace(7), "slip 7 ant")
        self.refused(desk, NoPlace(10 ** 30 - 1), "slip " + "9" * 30 + " ant")
        self.refused(desk, TooLong(300), "tell " + " ".join(["ant"] * 295))
        desk.say("tell " + " ".join(["ant"] * 294))
        self.refused(desk, TooLong(300), "say ant")
        self.refused(desk, TooLong(300), "slip 300 ant")
        self.refused(desk, Nothing(), "again")

    def test_what_is_refused_leaves_what_may_be_done_again(self):
        desk = desk_of("come amy", "say ant", "back")
        for row in ("come amy", "go bob", "slip 1 ant", "say", "nothing", "say Ant", "tell", "new new"):
            with self.assertRaises(SaidError):
                desk.say(row)
        self.answers(desk, ("again", "ok"), ("said", "ant"))

    def test_two_desks_by_turns(self):
        one, other = Desk(), Desk()
        self.answers(one, ("say ant", "ok"))
        self.answers(other, ("said", "-"), ("tell bee cow", "ok"), ("come amy", "ok"))
        self.answers(one, ("said", "ant"), ("circles", "-"), ("come bob", "ok"), ("back", "ok"), ("back", "ok"))
        self.answers(other, ("said", "bee cow"), ("circles", "amy"), ("new", "ok"))
        self.answers(one, ("said", "-"), ("again", "ok"), ("said", "ant"))
        self.refused(other, Nothing(), "back")

    def test_six_words_to_which_one_is_deaf(self):
        desk = Desk()
        self.answers(desk, ("come amy deaf " + SIX, "ok"), ("tell " + SIX, "ok"), ("heard amy", "-"))
        self.refused(desk, NoLine(), "come bob deaf " + SEVEN)

    def test_three_hundred_words(self):
        desk = Desk()
        self.answers(desk, ("tell " + FULL, "ok"), ("said", FULL), ("new", "ok"))
        self.refused(desk, NoLine(), "tell " + FULL + " ant")

    def test_compared_with_a_talk(self):
        desk, talk = Desk(), Talk()
        for seed in range(40):
            word, name = WORDS[seed * seed % 6], ["amy", "bob", "cid"][seed % 3]
            rows = [("say " + word, talk.say, [word]), (f"slip {seed % 5} {word}", talk.slip, [seed % 5, word]),
                    ("come " + name, talk.come, [name]), ("go " + name, talk.go, [name]), ("back", talk.back, []),
                    ("again", talk.again, []), ("tell " + show_speech(long_speech(seed % 4)), talk.tell,
                                                [long_speech(seed % 4)])]
            row, asked, handed = rows[(seed * 5 + seed // 7) % 7]
            try:
                asked(*handed)
                self.assertEqual(desk.say(row), "ok")
            except SaidError as refusal:
                self.refused(desk, refusal, row)
            self.assertEqual(desk.say("said"), show_speech(talk.said()))
            self.assertEqual(desk.say("circles"), ", ".join(" ".join(row) for row in talk.circles()) or "-")


class Questions(Case):
    """[92]"""

    def test_heard(self):
        desk = desk_of("tell ant bee", "come amy", "tell cow cow ant", "come bob")
        self.answers(desk, ("heard amy", "cow ant"), ("heard bob", "-"))
        self.refused(desk, NoListener("cid"), "heard cid")

    def test_circles(self):
        desk = desk_of("come dan", "tell ant bee", "come amy", "come cid deaf cow", "tell ant bee")
        self.answers(desk, ("circles", "amy cid dan"), ("say cow", "ok"), ("circles", "amy dan, cid"),
                     ("come bob", "ok"), ("circles", "amy dan, bob, cid"))

    def test_door(self):
        desk = desk_of("come amy", "tell ant bee", "come bob", "come dan deaf ant", "say ant", "come cid",
                       "come eva deaf ant")
        self.answers(desk, ("door amy amy", "alike"), ("door amy bob", "open bee ant"),
                     ("door amy cid", "open ant bee ant"), ("door dan eva", "alike"))
        desk.say("say bee")
        self.answers(desk, ("door amy cid", "shut"), ("door amy bob", "alike"), ("door cid bob", "shut"))
        self.refused(desk, NoListener("xxx"), "door xxx yyy")
        self.refused(desk, NoListener("yyy"), "door amy yyy")
        self.refused(desk, Unlike(), "door amy dan")

    def test_door_as_its_talk_tells_it(self):
        for u, v in open_pairs(4, 12) + open_pairs(6, 6):
            more = on(u, v)
            desk = desk_of("tell " + show_speech(u), "come amy", "tell " + show_speech(u), "come bob",
                           "tell " + show_speech(more))
            told = desk.talk.door("amy", "bob")
            expected = "open " + " ".join(told[1]) if told[0] == "open" else told[0]
            self.assertEqual(desk.say("door amy bob"), expected)

    def test_what_is_open_leads_to_alike(self):
        desk = desk_of("come amy", "tell ant bee cow", "come bob", "tell ant bee")
        name, _, row = desk.say("door amy bob").partition(" ")
        self.assertEqual(name, "open")
        self.answers(desk, ("tell " + row, "ok"), ("door amy bob", "alike"), ("circles", "amy bob"))

    def test_since(self):
        desk = desk_of("come amy", "tell ant bee", "come bob", "tell ant bee", "come cid", "come dan deaf bee")
        self.answers(desk, ("since amy bob", "4"), ("since bob amy", "4"), ("since amy cid", "-"),
                     ("since cid cid", "4"), ("since amy amy", "0"))
        self.refused(desk, NoListener("xxx"), "since xxx yyy")
        self.refused(desk, NoListener("yyy"), "since cid yyy")
        self.refused(desk, Unlike(), "since cid dan")

    def test_tried(self):
        desk = desk_of("tell ant bee")
        self.answers(desk, ("tried 0 ant", "alike 1"), ("tried 1 ant", "alike 1"), ("tried 2 bee", "alike 2"),
                     ("tried 2 ant", "open ant"), ("tried 0 bee", "shut 1"), ("tried 1 cow", "shut 2"),
                     ("said", "ant bee"))
        self.refused(desk, NoPlace(3), "tried 3 ant")
        self.answers(Desk(), ("tried 0 ant", "open ant"))
        desk = desk_of("tell " + SIX)
        self.refused(desk, TooMany(6), "tried 0 gnat")
        desk = desk_of("tell " + FULL)
        self.refused(desk, TooLong(300), "tried 0 ant")

    def test_short(self):
        desk = Desk()
        self.answers(desk, ("short -", "-"), ("short ant", "ant"), ("short ant bee ant bee", "ant bee"),
                     ("short " + FULL, SIX))
        for speech in chance_meanings(6, 3) + [long_speech(300)]:
            self.answers(desk, ("short " + show_speech(speech), show_speech(shortest(speech))))

    def test_on_and_ahead(self):
        desk = Desk()
        self.answers(desk, ("on - / -", "-"), ("on - / ant", "ant"), ("on ant / ant bee", "bee"),
                     ("on ant ant / ant", "-"), ("ahead - / -", "-"), ("ahead bee / ant bee", "ant"),
                     ("ahead - / ant bee", "ant bee"))
        self.refused(desk, NoWay(), "on ant / -")
        self.refused(desk, NoWay(), "on bee / ant bee")
        self.refused(desk, NoWay(), "ahead ant / ant bee")
        self.refused(desk, NoWay(), "on ant bee cow / dog eel fox")
        for u, v in open_pairs(6, 5):
            self.answers(desk, (f"on {show_speech(u)} / {show_speech(v)}", show_speech(on(u, v))),
                         (f"ahead {show_speech(u[::-1])} / {show_speech(v[::-1])}",
                          show_speech(ahead(u[::-1], v[::-1]))))

    def test_number_and_speech(self):
        desk = Desk()
        self.answers(desk, ("number -", "0"), ("number ant bee cow", "122"), ("speech 122 ant bee cow", "ant bee cow"),
                     ("speech 122 cow ant bee", "ant bee cow"), ("speech 0", "-"), ("speech 0 ant", "ant"))
        self.refused(desk, NoNumber(1), "speech 1")
        self.refused(desk, NoNumber(1), "speech 1 ant")
        self.refused(desk, NoNumber(144), "speech 144 ant bee cow")
        self.refused(desk, NoNumber(10 ** 30 - 1), "speech " + "9" * 30 + " " + SIX)
        for speech in chance_meanings(6, 4):
            number = number_of(speech)
            self.answers(desk, ("number " + show_speech(speech), str(number)),
                         (f"speech {number} {SIX}", show_speech(speech_of(WORDS, number))))

    def test_four(self):
        desk = Desk()
        self.answers(desk, ("four bee ant", "ant bee, ant bee ant, bee ant, bee ant bee"))
        for speech in chance_meanings(5, 3):
            self.answers(desk, ("four " + show_speech(speech), ", ".join(" ".join(row) for row in four(speech))))
        for row in ("four -", "four ant", "four ant ant"):
            self.refused(desk, TooFew(2), row)

    def test_questions_change_nothing(self):
        desk = desk_of("come amy", "tell ant bee", "come bob", "say ant", "back")
        kept = self.state(desk)
        for row in ("said", "heard amy", "circles", "door amy bob", "since amy bob", "tried 1 cow", "short ant ant",
                    "on - / ant", "ahead - / ant", "number ant", "speech 0 ant", "four ant bee"):
            self.assertEqual(desk.say(row), desk.say(row))
        self.assertEqual(self.state(desk), kept)

    def test_words_of_the_desks_own_rows(self):
        """As words and as names."""
        desk = Desk()
        for word in KEYWORDS:
            self.answers(desk, ("new", "ok"), ("come " + word, "ok"), (f"say {word}", "ok"),
                         (f"tell {word} {word}", "ok"), (f"slip 0 {word}", "ok"), (f"heard {word}", word),
                         ("circles", word), (f"door {word} {word}", "alike"), (f"since {word} {word}", "0"),
                         (f"tried 0 {word}", "alike 1"), (f"short {word} {word}", word), (f"on - / {word}", word),
                         (f"number {word}", "0"), (f"speech 0 {word}", word), (f"go {word}", "ok"),
                         (f"come {word} deaf {word}", "ok"), (f"heard {word}", "-"),
                         (f"four {word} aa", f"aa {word}, aa {word} aa, {word} aa, {word} aa {word}"))

    def test_answers_are_as_their_matters_tell(self):
        desk = desk_of("tell " + show_speech(long_speech(60, 5)))
        for at in range(0, 61, 6):
            for word in WORDS[:5]:
                told = desk.talk.tried(at, word)
                expected = "open " + " ".join(told[1]) if told[0] == "open" else f"{told[0]} {told[1]}"
                self.answers(desk, (f"tried {at} {word}", expected))


class NoRows(Case):
    """[4], [92]"""

    def test_whatever_is_no_row(self):
        desk = desk_of("come amy", "tell ant bee", "come bob", "say ant", "back")
        rows = ["", " ", "  ", "\n", "-", "/", "ant", "nothing", "Say ant", "SAY ant", "ok", "come", "come ",
                " come amy", "come amy ", "come  cid", "come cid dan", "come cid deaf", "come cid deaf ",
                "come cid deaf ant ant", "come cid deaf Ant", "come cid deaf -", "come cid deaf ant  bee",
                "come cid deaf " + SEVEN, "come cid Deaf ant", "come deaf deaf", "come cid ant", "come cid deaf 1",
                "come -", "come Cid", "come 1", "come abcdefghi", "come cid, dan", "go", "go amy bob", "go Amy", "go ",
                "go -", "say", "say ", "say ant bee", "say Ant", "say -", "say 1", "say ant\n", "say abcdefghi",
                "say  ant", "tell", "tell ", "tell - -", "tell - ant", "tell ant -", "tell  ant", "tell ant  bee",
                "tell ant ", "tell Ant", "tell " + SEVEN, "tell " + FULL + " ant", "tell ant / bee", "tell ant\nbee",
                "slip", "slip 0", "slip ant", "slip ant 0", "slip 00 ant", "slip 01 ant", "slip -1 ant", "slip +1 ant",
                "slip 1.0 ant", "slip 0 -", "slip 0 ant bee", "slip 0 Ant", "slip  0 ant", "slip 0  ant", "slip 0 ant ",
                "slip 0 0", "slip 1_0 ant", "slip " + "1" + "0" * 30 + " ant", "slip " + "0" * 30 + " ant",
                "slip " + "1" * 7000 + " ant", "back ", " back", "back back", "back 1", "again ", "again again", "new ",
                "new new", "new talk", "New", "said ", "said amy", "said -", "heard", "heard ", "heard amy bob",
                "heard Amy", "heard -", "circles ", "circles amy", "door", "door amy", "door amy bob cid",
                "door amy  bob", "door amy / bob", "door Amy bob", "door amy Bob", "door amy -", "since", "since amy",
                "since amy bob cid", "since - amy", "since amy 1", "tried", "tried 0", "tried ant", "tried 00 ant",
                "tried 0 ant bee", "tried -1 ant", "tried 0 Ant", "tried 1" + "0" * 30 + " ant", "short", "short ",
                "short Ant", "short - -", "short " + SEVEN, "short " + FULL + " ant", "short  ant", "on", "on ant",
                "on ant bee", "on /", "on / ant", "on ant /", "on / /", "on ant / ", "on  / ant", "on ant  / bee",
                "on ant /  bee", "on ant/bee", "on ant / bee / cow", "on - / - -", "on ant / Bee", "on Ant / bee",
                "on " + SIX + " / gnat", "on gnat / " + SIX, "on ant / " + SEVEN, "on " + FULL + " ant / ant", "ahead",
                "ahead ant", "ahead / ant", "ahead ant /", "ahead ant / bee / cow", "ahead " + SIX + " / gnat",
                "ahead ant bee", "number", "number ", "number 1", "number - -", "number " + SEVEN, "number ant  bee",
                "speech", "speech ", "speech ant", "speech 0 ", "speech 0 ant ant", "speech 00 ant", "speech -1 ant",
                "speech 0 Ant", "speech 0 -", "speech 0  ant", "speech 0 " + SEVEN, "speech " + "1" * 31,
                "speech " + "1" * 31 + " ant", "four", "four ", "four - -", "four " + SEVEN, "four ant, bee",
                "four ant  bee", "deaf", "deaf ant", "open ant", "talk"]
        for row in rows:
            self.refused(desk, NoLine(), row)
        self.answers(desk, ("again", "ok"), ("said", "ant bee ant"))

    def test_things_that_are_no_text(self):
        desk = desk_of("come amy", "say ant", "back")
        for thing in [None, True, False, 0, 1, -1, 10 ** 59, b"", b"said", b"say ant", [], ["say", "ant"], ["said"], (),
                      ("said",), {}, {"said": 1}, {"say": "ant"}, set(), {"said"}, ODD, Odd, str, len, Desk(), Talk(),
                      Book([]), [[[[[]]]]]]:
            self.refused(desk, NoLine(), thing)
        for thing in NO_SPEECHES:
            if not isinstance(thing, str):
                self.refused(desk, NoLine(), thing)

    def test_one_sign_more(self):
        """A blank, or another sign, at each place of a row makes it none, but for what lengthens a word or a number."""
        rows = ["come amy deaf ant", "say ant", "tell ant bee", "slip 0 ant", "back", "said", "door amy bob",
                "on ant / ant bee"]
        for row in rows:
            for at in range(len(row) + 1):
                for sign in " \n~A":
                    spoilt = row[:at] + sign + row[at:]
                    if sign == " " and 0 < at < len(row) and " " not in (row[at - 1], row[at]):
                        continue
                    self.refused(desk_of("come bob", "say cow"), NoLine(), spoilt)

    def test_a_no_line_is_due_ahead_of_all_else(self):
        desk = desk_of("tell " + FULL)
        for row in ("say Gnat", "slip 999 Ant", "heard Amy", "door xxx Yyy", "speech 999 ant ant", "go Amy",
                    "tried 999 -"):
            self.refused(desk, NoLine(), row)

    def test_numbers_of_thirty_figures(self):
        desk = desk_of("say ant")
        for at in (10 ** 29, 10 ** 30 - 1):
            self.refused(desk, NoPlace(at), f"slip {at} ant")
            self.refused(desk, NoPlace(at), f"tried {at} ant")
            self.refused(desk, NoNumber(at), f"speech {at} {SIX}")
        for row in (f"slip {10 ** 30} ant", f"tried {10 ** 30} ant", f"speech {10 ** 30} {SIX}"):
            self.refused(desk, NoLine(), row)


if __name__ == "__main__":
    unittest.main()
