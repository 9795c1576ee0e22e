"""Sayings in a book: points 11, 13 and 14, and `say`."""

import itertools
import unittest

from kinhearth.errors import Barred
from kinhearth.papers import stands
from tests.helper import (
    CROOKED, FIFTY, KARIERA, LANDS, RING, all_told, dealings_of, filled, great_lands, refusal, refused_with, shows,
)

NO_SECTIONS = [-1, -2, -4, 4, 5, 8, FIFTY, -FIFTY, FIFTY - 1]


class Kept(unittest.TestCase):
    def test_numbers_and_rows(self):
        hearth = filled(KARIERA, "ann/w bob/m")
        self.assertEqual(hearth.say("bob", 3), 0)
        self.assertEqual(hearth.tie("wed", "bob", "ann"), 1)
        self.assertEqual(hearth.say("ann", 2), 2)
        self.assertEqual(hearth.kept(), [(0, "said", "bob", 3), (1, "wed", "bob", "ann"), (2, "said", "ann", 2)])

    def test_each_section(self):
        for land in great_lands():
            for section in range(land.size):
                hearth = filled(land, "ann/w bob/m")
                self.assertEqual(hearth.say("ann", section), 0)
                self.assertEqual({dealt["ann"] for dealt in dealings_of(hearth)}, {section})
                self.assertEqual({dealt["bob"] for dealt in dealings_of(hearth)}, set(range(land.size)))


class Refusals(unittest.TestCase):
    def setUp(self):
        self.hearth = filled(KARIERA, "ann/w bob/m", [("said", "ann", 1), ("wed", "bob", "ann")])
        self.hearth.person("cid", "man")
        self.hearth.undo()
        self.before = all_told(self.hearth)

    def refused(self, name, one, section):
        self.assertEqual(refused_with(self.hearth.say, one, section), name, (one, section))
        self.assertEqual(all_told(self.hearth), self.before)

    def test_no_person(self):
        for name in ("cid", "", "Ann", "an", "ann "):
            self.refused("NoPerson", name, 1)

    def test_no_person_ahead_of_no_section(self):
        for section in NO_SECTIONS:
            self.refused("NoPerson", "cid", section)

    def test_no_section(self):
        for section, name in itertools.product(NO_SECTIONS, ["ann", "bob"]):
            self.refused("NoSection", name, section)

    def test_the_size_is_no_section(self):
        for land in LANDS:
            hearth = filled(land, "ann/w")
            self.assertEqual(refused_with(hearth.say, "ann", land.size), "NoSection")
            self.assertEqual(refused_with(hearth.say, "ann", -1), "NoSection")
            self.assertEqual(refused_with(hearth.say, "ann", -land.size), "NoSection")
            self.assertEqual(hearth.say("ann", land.size - 1), 0)

    def test_twice(self):
        self.refused("Twice", "ann", 1)

    def test_the_same_by_a_tie_alone_is_not_twice(self):
        self.assertEqual(self.hearth.say("bob", 0), 2)
        self.assertEqual(refused_with(self.hearth.say, "bob", 0), "Twice")

    def test_barred(self):
        for section in (0, 2, 3):
            self.refused("Barred", "ann", section)
        for section in (1, 2, 3):
            self.refused("Barred", "bob", section)

    def test_said_once_more_behind_a_taking_out(self):
        self.hearth.take(0)
        self.assertEqual(self.hearth.say("ann", 1), 2)
        self.hearth.take(2)
        self.assertEqual(self.hearth.say("ann", 3), 3)


class BarredSayings(unittest.TestCase):
    def refused(self, hearth, name, section, number):
        raised = refusal(hearth.say, name, section)
        self.assertIs(type(raised), Barred)
        self.assertEqual((raised.word, raised.whom), ("barred", name))
        self.assertEqual(len(raised.walks), hearth.land.size)
        facts = hearth.kept() + [(number, "said", name, section)]
        for at, paper in enumerate(raised.walks):
            self.assertTrue(shows(hearth.land, facts, name, at, paper), paper)
            self.assertIs(stands(hearth.land, facts, name, at, paper), True)

    def test_of_one_said_otherwise(self):
        for land in great_lands():
            hearth = filled(land, "ann/w", [("said", "ann", 0)])
            self.refused(hearth, "ann", land.size - 1, 1)

    def test_over_ties(self):
        hearth = filled(CROOKED, "ann/w bob/m cid/m dot/w", [
            ("wed", "bob", "ann"), ("mother", "cid", "ann"), ("sibling", "cid", "dot"), ("said", "bob", 2),
        ])
        hearth.take(3)
        hearth.say("bob", 0)
        held = dealings_of(hearth)
        self.assertEqual(len(held), 1)
        for name, section in itertools.product(["ann", "cid", "dot"], range(5)):
            if section != held[0][name]:
                self.refused(hearth, name, section, 5)

    def test_just_where_no_dealing_would_be_left(self):
        for land in LANDS[::3]:
            hearth = filled(land, "ann/w bob/m cid/m", [("mother", "cid", "ann"), ("said", "cid", 1)])
            left = {dealt["ann"] for dealt in dealings_of(hearth)}
            for section in range(land.size):
                if section in left:
                    self.assertEqual(hearth.twin().say("ann", section), 2)
                else:
                    self.refused(hearth, "ann", section, 2)

    def test_rounds_that_leave_nothing_but_fixed_sections(self):
        # A father's and a mother's tie to siblings leave those sections that both turnings lead alike.
        hearth = filled(RING, "ann/w bob/m cid/m", [("mother", "cid", "ann"), ("said", "cid", 2)])
        self.refused(hearth, "ann", 0, 2)
        self.refused(hearth, "ann", 1, 2)
        self.assertEqual(hearth.say("ann", 2), 2)


if __name__ == "__main__":
    unittest.main()
