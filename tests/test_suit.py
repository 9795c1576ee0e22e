"""Suits: whether a book would keep a tie and what it would leave; kinhearth/suit.py of the interface."""

import itertools
import unittest

from kinhearth.hearth import Hearth
from kinhearth.suit import left_by, left_to, may, suits
from tests.helper import (
    CROOKED, KARIERA, LANDS, RING, TIES, all_told, dealings_of, done, filled, great_book, great_lands, kept_by,
    refused_with, small_books, soon,
)

NO_KINDS = ["", "said", "m", "Mother", "mother ", "wife", "wed\n", "child"]


class AgainstTheBook(unittest.TestCase):
    def setUp(self):
        self.books = small_books(LANDS[::2])

    def couples(self, hearth):
        return itertools.product(TIES, hearth.people(), hearth.people())

    def test_may(self):
        seen = {}
        for hearth in self.books:
            for kind, one, other in self.couples(hearth):
                told = done(hearth.twin(), ("tie", kind, one, other))
                self.assertIs(may(hearth, kind, one, other), not isinstance(told, str))
                seen[told if isinstance(told, str) else "kept"] = True
        self.assertEqual(sorted(seen), ["Barred", "OwnElder", "Twice", "WrongSide", "kept"])

    def test_left_to_and_left_by(self):
        for hearth in self.books:
            held = dealings_of(hearth)
            for kind, one, other in self.couples(hearth):
                left = [dealt for dealt in held if kept_by(hearth.land, dealt, (0, kind, one, other))]
                self.assertEqual(left_to(hearth, kind, one, other), sorted({dealt[one] for dealt in left}))
                self.assertEqual(left_by(hearth, kind, one, other), len(left))

    def test_suits(self):
        for hearth in self.books:
            for name in hearth.people():
                expected = []
                for other in hearth.people():
                    couple = (name, other) if hearth.side_of(name) == "man" else (other, name)
                    if not isinstance(done(hearth.twin(), ("tie", "wed", *couple)), str):
                        expected.append(other)
                self.assertEqual(suits(hearth, name), expected)

    def test_nothing_is_changed_by_asking(self):
        for hearth in self.books:
            before = all_told(hearth)
            for kind, one, other in self.couples(hearth):
                may(hearth, kind, one, other)
                left_to(hearth, kind, one, other)
                left_by(hearth, kind, one, other)
            for name in hearth.people():
                suits(hearth, name)
            self.assertEqual(all_told(hearth), before)


class Plain(unittest.TestCase):
    def setUp(self):
        self.hearth = filled(KARIERA, "eve/w bob/m ann/w dan/m fay/w", [
            ("wed", "bob", "eve"), ("said", "eve", 3), ("said", "ann", 0), ("mother", "dan", "fay"),
        ])

    def test_may(self):
        self.assertIs(may(self.hearth, "sibling", "bob", "ann"), False)
        self.assertIs(may(self.hearth, "mother", "bob", "ann"), True)
        self.assertIs(may(self.hearth, "wed", "bob", "eve"), False)
        self.assertIs(may(self.hearth, "wed", "eve", "bob"), False)
        self.assertIs(may(self.hearth, "sibling", "ann", "ann"), False)
        self.assertIs(may(self.hearth, "mother", "fay", "fay"), False)
        self.assertIs(may(self.hearth, "mother", "dan", "ann"), False)

    def test_no_other_refusal_than_two(self):
        # Wrong sides, ties that are kept already and one's own elders are asked for their turnings alone.
        self.assertEqual(left_to(self.hearth, "wed", "eve", "bob"), [3])
        self.assertEqual(left_to(self.hearth, "wed", "bob", "eve"), [2])
        self.assertEqual(left_to(self.hearth, "sibling", "dan", "dan"), [0, 1, 2, 3])
        self.assertEqual(left_to(self.hearth, "mother", "fay", "fay"), [])
        self.assertEqual(left_to(self.hearth, "mother", "fay", "dan"), [0, 1, 2, 3])
        self.assertEqual(left_by(self.hearth, "mother", "fay", "dan"), 4)
        self.assertEqual(left_by(self.hearth, "mother", "fay", "fay"), 0)
        self.assertEqual(left_by(self.hearth, "sibling", "dan", "ann"), 1)

    def test_suits(self):
        self.assertEqual(suits(self.hearth, "dan"), ["eve", "ann"])
        self.assertEqual(suits(self.hearth, "eve"), ["dan"])
        self.assertEqual(suits(self.hearth, "bob"), ["fay"])
        self.assertEqual(suits(self.hearth, "fay"), ["bob"])
        self.assertIsInstance(suits(self.hearth, "fay"), list)

    def test_bad_word_then_no_person(self):
        for ask in (may, left_to, left_by):
            for kind in NO_KINDS:
                self.assertEqual(refused_with(ask, self.hearth, kind, "bob", "eve"), "BadWord")
                self.assertEqual(refused_with(ask, self.hearth, kind, "zed", "eve"), "BadWord")
                self.assertEqual(refused_with(ask, self.hearth, kind, "bob", "zed"), "BadWord")
            for kind, name in itertools.product(TIES, ["zed", "", "Bob"]):
                self.assertEqual(refused_with(ask, self.hearth, kind, name, "bob"), "NoPerson")
                self.assertEqual(refused_with(ask, self.hearth, kind, "eve", name), "NoPerson")
                self.assertEqual(refused_with(ask, self.hearth, kind, name, name), "NoPerson")
        for name in ("zed", "", "Bob"):
            self.assertEqual(refused_with(suits, self.hearth, name), "NoPerson")
        self.assertEqual(refused_with(suits, Hearth(RING), "bob"), "NoPerson")

    def test_told_lists_that_are_changed_change_nothing(self):
        before = all_told(self.hearth)
        for told in (left_to(self.hearth, "sibling", "dan", "bob"), suits(self.hearth, "dan")):
            told.append("fay")
            told.clear()
        self.assertEqual(all_told(self.hearth), before)
        self.assertEqual(suits(self.hearth, "dan"), ["eve", "ann"])


class GreatBooks(unittest.TestCase):
    def test_told_soon(self):
        with soon(30):
            for land in great_lands()[::3] + [CROOKED]:
                hearth, dealt = great_book(land, 3)
                before = all_told(hearth)
                for name in hearth.people():
                    told = suits(hearth, name)
                    self.assertNotIn(name, told)
                for one, other in itertools.product(hearth.people()[:20], hearth.people()[-20:]):
                    for kind in TIES:
                        if kept_by(land, dealt, (0, kind, one, other)):
                            self.assertIn(dealt[one], left_to(hearth, kind, one, other))
                            self.assertGreater(left_by(hearth, kind, one, other), 0)
                        self.assertIs(may(hearth, kind, one, other) and not left_to(hearth, kind, one, other), False)
                self.assertEqual(all_told(hearth), before)


if __name__ == "__main__":
    unittest.main()
