import unittest

from tests.helper import WORDS, speeches_upto, told_fresh
from twicesaid.shown import shown
from twicesaid.speeches import doubled, single


class Shown(unittest.TestCase):
    """[3], [12], [22]"""

    def walked(self, speech, steps):
        """Where the steps lead; they are looked at on the way."""
        self.assertLessEqual(len(steps), 700)
        for step in steps:
            self.assertIs(type(step), tuple)
            name, at, many = step
            self.assertIn(name, ("double", "single"))
            speech = doubled(speech, at, many) if name == "double" else single(speech, at, many)
            self.assertLessEqual(len(speech), 300)
        return speech

    def test_all_over_three_words(self):
        tried = 0
        rows = speeches_upto(WORDS[:3], 3)[1:]
        for x in rows:
            for z in [row for row in rows if set(row) == set(x)]:
                for y in [row for row in rows if len(row) < 3 and set(row) <= set(x)]:
                    tried += 1
                    self.assertEqual(self.walked(x + y + z, shown(x, y, z)), x + z)
        self.assertEqual(tried, 1638)

    def test_what_is_handed_in_stays(self):
        x, y, z = ["ant", "bee", "cow"], ["cow", "ant"], ["bee", "cow", "ant"]
        steps = told_fresh(self, shown, x, y, z)
        self.assertEqual(self.walked(x + y + z, steps), x + z)
        told_fresh(self, shown, ["ant"], ["ant"], ["ant"])

    def test_words_handed_in_twice_as_one_list(self):
        x = ["ant", "bee"]
        self.assertEqual(self.walked(x * 3, shown(x, x, x)), x * 2)


if __name__ == "__main__":
    unittest.main()
