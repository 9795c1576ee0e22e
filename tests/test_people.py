"""People in a book: point 11, the order of coming of point 16, and `person`, `people` and `side_of`."""

import unittest

from kinhearth.errors import BadName, NoPerson, Taken
from kinhearth.hearth import Hearth
from kinhearth.land import alike_lands
from tests.helper import KARIERA, RING, SMALL_LETTERS, all_told, filled, refused_with

GOOD_NAMES = ["a", "z", "ann", "a1", "a0b9", "z99999999999", "abcdefghijkl", "next", "man", "said", "none"]
ALL_SIGNS = [chr(number) for number in range(32, 127)] + ["\n"]
NO_SIDES = ["", "Man", "MAN", "m", "w", "men", "man ", " woman", "woman\n", "manwoman", "child", "a"]


class Names(unittest.TestCase):
    def refused(self, name, side="man"):
        hearth = filled(KARIERA, "ann/w", [("said", "ann", 1)])
        before = all_told(hearth)
        self.assertEqual(refused_with(hearth.person, name, side), "BadName")
        self.assertEqual(all_told(hearth), before)

    def test_a_book_is_empty_at_first(self):
        hearth = Hearth(KARIERA)
        self.assertEqual(hearth.people(), [])
        self.assertEqual(hearth.kept(), [])
        self.assertEqual((hearth.undoable(), hearth.redoable()), (0, 0))
        self.assertTrue(alike_lands(hearth.land, KARIERA))

    def test_names_of_one_to_twelve_signs(self):
        for length in range(1, 13):
            hearth = Hearth(KARIERA)
            self.assertIsNone(hearth.person("k" * length, "man"))
            self.assertIsNone(hearth.person("k" + "7" * (length - 1) if length > 1 else "j", "woman"))
            self.assertEqual(len(hearth.people()), 2)

    def test_other_names(self):
        hearth = Hearth(KARIERA)
        for name in GOOD_NAMES:
            hearth.person(name, "woman")
        self.assertEqual(hearth.people(), GOOD_NAMES)

    def test_each_letter_may_be_the_first_one(self):
        hearth = Hearth(RING)
        for letter in SMALL_LETTERS:
            hearth.person(letter, "man")
        self.assertEqual(hearth.people(), list(SMALL_LETTERS))

    def test_names_of_thirteen_signs_and_more(self):
        self.refused("abcdefghijklm")
        self.refused("a" + "1" * 12)
        self.refused("a" * 200)

    def test_the_empty_name(self):
        self.refused("")

    def test_each_other_sign_at_the_first_place(self):
        for sign in ALL_SIGNS:
            if sign not in SMALL_LETTERS:
                self.refused(sign)
                self.refused(sign + "nn")

    def test_each_other_sign_at_each_other_place(self):
        for sign in ALL_SIGNS:
            for place in (1, 2, 11):
                name = "abcdefghijkl"[:place] + sign + "abcdefghijkl"[place + 1:]
                if sign in SMALL_LETTERS + "0123456789":
                    hearth = Hearth(KARIERA)
                    hearth.person(name, "man")
                    self.assertEqual(hearth.people(), [name])
                else:
                    self.refused(name)
                    self.refused(name[:place + 1])

    def test_sides_that_are_none(self):
        for side in NO_SIDES:
            self.refused("bob", side)

    def test_bad_name_ahead_of_taken(self):
        self.refused("ann", "child")
        self.refused("ann", "")

    def test_a_name_that_the_book_has(self):
        hearth = filled(KARIERA, "ann/w bob/m")
        before = all_told(hearth)
        for name in ("ann", "bob"):
            for side in ("man", "woman"):
                self.assertEqual(refused_with(hearth.person, name, side), "Taken")
        self.assertEqual(all_told(hearth), before)
        self.assertRaises(Taken, hearth.person, "ann", "woman")
        self.assertRaises(BadName, hearth.person, "Ann", "woman")

    def test_names_that_are_alike_in_part(self):
        hearth = filled(KARIERA, "an/w ann/w anna/w a/m nn/m")
        self.assertEqual(hearth.people(), ["an", "ann", "anna", "a", "nn"])


class Asked(unittest.TestCase):
    def test_people_in_the_order_of_coming(self):
        hearth = filled(KARIERA, "zoe/w bob/m ann/w b/m")
        self.assertEqual(hearth.people(), ["zoe", "bob", "ann", "b"])
        self.assertIsInstance(hearth.people(), list)

    def test_sides(self):
        hearth = filled(KARIERA, "zoe/w bob/m")
        self.assertEqual(hearth.side_of("zoe"), "woman")
        self.assertEqual(hearth.side_of("bob"), "man")

    def test_no_person(self):
        hearth = filled(KARIERA, "zoe/w bob/m")
        for name in ("ann", "", "Bob", "bo", "bobb", "zoe bob", "man"):
            self.assertEqual(refused_with(hearth.side_of, name), "NoPerson")
        self.assertRaises(NoPerson, Hearth(KARIERA).side_of, "bob")

    def test_a_told_list_that_is_changed_changes_nothing(self):
        hearth = filled(KARIERA, "zoe/w bob/m")
        hearth.people().append("ann")
        hearth.people().reverse()
        hearth.people().clear()
        self.assertEqual(hearth.people(), ["zoe", "bob"])
        self.assertEqual(refused_with(hearth.side_of, "ann"), "NoPerson")

    def test_people_of_two_books_have_nothing_to_do_with_one_another(self):
        one, other = Hearth(KARIERA), Hearth(KARIERA)
        one.person("ann", "woman")
        other.person("ann", "man")
        one.person("bob", "man")
        self.assertEqual((one.people(), other.people()), (["ann", "bob"], ["ann"]))
        self.assertEqual((one.side_of("ann"), other.side_of("ann")), ("woman", "man"))


if __name__ == "__main__":
    unittest.main()
