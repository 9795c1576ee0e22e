"""What a book keeps, and its twins: `kept`, `has` and `twin`, and points 2 and 16."""

import itertools
import random
import unittest

from kinhearth.asks import open_of
from kinhearth.hearth import Hearth
from kinhearth.land import alike_lands
from tests.helper import (
    CROOKED, FIFTY, KARIERA, LANDS, RING, TIES, all_told, contents, done, filled, refused_with, some_deed,
)

PEOPLE = "ann/w bob/m cid/m dot/w"
FACTS = [
    ("mother", "cid", "ann"), ("wed", "bob", "ann"), ("said", "cid", 0), ("father", "cid", "bob"),
    ("sibling", "dot", "cid"),
]


class Kept(unittest.TestCase):
    def setUp(self):
        self.hearth = filled(KARIERA, PEOPLE, FACTS)

    def test_by_rising_numbers(self):
        self.assertEqual(self.hearth.kept(), [(number, *fact) for number, fact in enumerate(FACTS)])
        self.hearth.take(1)
        self.hearth.take(0)
        self.hearth.undo()
        self.hearth.tie("wed", "bob", "ann")
        self.assertEqual([fact[0] for fact in self.hearth.kept()], [0, 2, 3, 4, 5])
        self.hearth.undo()
        self.hearth.undo()
        self.assertEqual([fact[0] for fact in self.hearth.kept()], [0, 1, 2, 3, 4])

    def test_a_list_of_tuples(self):
        self.assertIsInstance(self.hearth.kept(), list)
        for fact in self.hearth.kept():
            self.assertIsInstance(fact, tuple)
        self.assertEqual(Hearth(KARIERA).kept(), [])

    def test_rows_as_they_were_told(self):
        self.assertIn((4, "sibling", "dot", "cid"), self.hearth.kept())
        self.assertNotIn((4, "sibling", "cid", "dot"), self.hearth.kept())

    def test_a_told_list_that_is_changed_changes_nothing(self):
        before = all_told(self.hearth)
        self.hearth.kept().clear()
        self.hearth.kept().reverse()
        self.hearth.kept().append((9, "said", "ann", 0))
        self.hearth.kept()[0] = (0, "mother", "cid", "dot")
        self.assertEqual(all_told(self.hearth), before)


class Has(unittest.TestCase):
    def setUp(self):
        self.hearth = filled(KARIERA, PEOPLE, FACTS)

    def test_each_fact_and_no_other(self):
        names = self.hearth.people() + ["zed", "", "Ann"]
        told = FACTS + [("sibling", "cid", "dot")]
        for kind, one, other in itertools.product(TIES + ["", "m", "child"], names, names):
            self.assertIs(self.hearth.has(kind, one, other), (kind, one, other) in told)

    def test_sayings(self):
        for name, section in itertools.product(self.hearth.people() + ["zed"], [-1, 0, 1, 2, 3, 4, FIFTY]):
            self.assertIs(self.hearth.has("said", name, section), (name, section) == ("cid", 0))

    def test_what_is_so_but_was_not_told(self):
        self.assertEqual(open_of(self.hearth, "dot"), [0])
        self.assertIs(self.hearth.has("said", "dot", 0), False)
        self.assertIs(self.hearth.has("mother", "dot", "ann"), False)

    def test_behind_taking_out_and_undoing(self):
        self.hearth.take(4)
        self.assertIs(self.hearth.has("sibling", "cid", "dot"), False)
        self.hearth.undo()
        self.assertIs(self.hearth.has("sibling", "cid", "dot"), True)
        self.hearth.undo()
        self.assertIs(self.hearth.has("sibling", "dot", "cid"), False)
        self.hearth.redo()
        self.assertIs(self.hearth.has("sibling", "dot", "cid"), True)

    def test_in_an_empty_book(self):
        for kind in TIES:
            self.assertIs(Hearth(RING).has(kind, "ann", "bob"), False)
        self.assertIs(Hearth(RING).has("said", "ann", 0), False)


class Twins(unittest.TestCase):
    def setUp(self):
        self.hearth = filled(KARIERA, PEOPLE, FACTS)
        self.hearth.take(1)
        self.hearth.take(4)
        self.hearth.person("eve", "woman")
        self.hearth.undo()

    def test_the_same_in_it(self):
        twin = self.hearth.twin()
        self.assertIsInstance(twin, Hearth)
        self.assertEqual(contents(twin), contents(self.hearth))
        self.assertTrue(alike_lands(twin.land, self.hearth.land))
        self.assertEqual(twin.tie("wed", "bob", "ann"), 5)

    def test_nothing_can_be_undone_or_redone(self):
        twin = self.hearth.twin()
        self.assertEqual((twin.undoable(), twin.redoable()), (0, 0))
        self.assertEqual(refused_with(twin.undo), "NothingLeft")
        self.assertEqual(refused_with(twin.redo), "NothingLeft")

    def test_the_first_one_stays(self):
        before = all_told(self.hearth)
        self.hearth.twin()
        self.assertEqual(all_told(self.hearth), before)

    def test_of_an_empty_book(self):
        twin = Hearth(CROOKED).twin()
        self.assertEqual(all_told(twin), all_told(Hearth(CROOKED)))

    def test_of_a_book_whose_facts_were_all_taken_out(self):
        for number in (0, 2, 3):
            self.hearth.take(number)
        twin = self.hearth.twin()
        self.assertEqual(twin.kept(), [])
        self.assertEqual(twin.say("ann", 0), 5)

    def test_it_refuses_what_the_first_one_refuses(self):
        twin = self.hearth.twin()
        self.assertEqual(refused_with(twin.person, "ann", "woman"), "Taken")
        self.assertEqual(refused_with(twin.tie, "mother", "cid", "dot"), "Twice")
        self.assertEqual(refused_with(twin.tie, "father", "bob", "cid"), "OwnElder")
        self.assertEqual(refused_with(twin.say, "cid", 0), "Twice")
        self.assertEqual(refused_with(twin.say, "ann", 0), "Barred")
        self.assertEqual(refused_with(twin.take, 4), "NoFact")

    def test_what_is_done_in_one_changes_nothing_in_the_other(self):
        for seed in range(20):
            chance = random.Random(seed)
            land = chance.choice(LANDS[:30])
            hearth = filled(land, PEOPLE)
            for step in range(15):
                done(hearth, some_deed(chance, land, hearth.people(), range(9)))
            books = [hearth, hearth.twin()]
            for step in range(40):
                chance.shuffle(books)
                before = all_told(books[1])
                done(books[0], some_deed(chance, land, hearth.people() + ["zed"], range(12)))
                self.assertEqual(all_told(books[1]), before)


if __name__ == "__main__":
    unittest.main()
