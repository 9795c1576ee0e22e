"""The classes of refusals: their words, their fields, where they stand."""

import unittest

from kinhearth import errors

WORDS = {
    "BadTurn": "no turning",
    "BadLand": "no land",
    "Unequal": "unequal parents",
    "BadWord": "no word",
    "TooMany": "too many",
    "BadName": "no name",
    "Taken": "name taken",
    "NoPerson": "no person",
    "NoSection": "no section",
    "WrongSide": "wrong side",
    "Twice": "told twice",
    "OwnElder": "own elder",
    "Barred": "barred",
    "NoFact": "no fact",
    "NothingLeft": "nothing left",
    "UnlikeLands": "unlike lands",
    "BadText": "no text",
    "NoBook": "no book",
}
MADE_WITH = {
    "Unequal": (3,),
    "OwnElder": (["ann", "bea"],),
    "Barred": ("ann", [([(0, 1)], None), ([], 2)]),
}


def made(name):
    return getattr(errors, name)(*MADE_WITH.get(name, ()))


class Classes(unittest.TestCase):
    def test_kin_error_stands_straight_under_value_error(self):
        self.assertEqual(errors.KinError.__bases__, (ValueError,))

    def test_each_stands_straight_under_kin_error(self):
        for name in WORDS:
            with self.subTest(name):
                self.assertEqual(getattr(errors, name).__bases__, (errors.KinError,))

    def test_no_class_is_beyond_those_told(self):
        told = {name for name, thing in vars(errors).items() if isinstance(thing, type)}
        self.assertEqual(told, set(WORDS) | {"KinError"})

    def test_each_has_its_word(self):
        for name, word in WORDS.items():
            with self.subTest(name):
                self.assertEqual(made(name).word, word)

    def test_each_is_taken_by_its_own_class_and_by_kin_error_alone(self):
        for name in WORDS:
            for other in WORDS:
                with self.subTest(name=name, other=other):
                    self.assertEqual(isinstance(made(name), getattr(errors, other)), name == other)
            self.assertIsInstance(made(name), errors.KinError)

    def test_further_words_leave_the_word_as_it_is(self):
        for name in sorted(set(WORDS) - set(MADE_WITH)):
            with self.subTest(name):
                refusal = getattr(errors, name)("some reason")
                self.assertEqual(refusal.word, WORDS[name])
                self.assertIn("some reason", str(refusal))

    def test_its_text_has_the_word(self):
        for name, word in WORDS.items():
            with self.subTest(name):
                self.assertTrue(str(made(name)).startswith(word))


class Fields(unittest.TestCase):
    def test_unequal_has_the_section(self):
        self.assertEqual(errors.Unequal(0).section, 0)
        self.assertEqual(errors.Unequal(7).section, 7)

    def test_own_elder_has_the_line(self):
        line = ["ann", "bea", "cid"]
        refusal = errors.OwnElder(line)
        self.assertEqual(refusal.line, ["ann", "bea", "cid"])
        line.append("dan")
        self.assertEqual(refusal.line, ["ann", "bea", "cid"])

    def test_barred_has_whom_and_walks(self):
        walks = [([(0, 1), (2, -1)], None), ([], 5)]
        refusal = errors.Barred("ann", walks)
        self.assertEqual(refusal.whom, "ann")
        self.assertEqual(refusal.walks, [([(0, 1), (2, -1)], None), ([], 5)])
        walks[0][0].clear()
        walks.pop()
        self.assertEqual(refusal.walks, [([(0, 1), (2, -1)], None), ([], 5)])


if __name__ == "__main__":
    unittest.main()
