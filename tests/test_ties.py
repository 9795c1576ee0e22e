"""Ties in a book: points 11, 12 and 14, and `tie`."""

import itertools
import random
import unittest

from kinhearth.errors import Barred, OwnElder
from kinhearth.hearth import Hearth
from kinhearth.papers import stands
from tests.helper import (
    CROOKED, KARIERA, LANDS, RING, STILL_LAND, TIES, all_dealings, all_told, dealings_of, done, filled, refusal,
    refused_with, shows,
)

NO_KINDS = ["", "said", "m", "f", "Mother", "mother ", " mother", "mothers", "wife", "mother\n", "child", "take"]
STRANGERS = ["zed", "", "Ann", "an", "ann bob", "ann "]


class Kept(unittest.TestCase):
    def test_numbers_and_rows(self):
        hearth = filled(KARIERA, "ann/w bob/m cid/m dot/w")
        self.assertEqual(hearth.tie("mother", "cid", "ann"), 0)
        self.assertEqual(hearth.tie("father", "cid", "bob"), 1)
        self.assertEqual(hearth.tie("wed", "bob", "ann"), 2)
        self.assertEqual(hearth.tie("sibling", "dot", "cid"), 3)
        self.assertEqual(hearth.kept(), [
            (0, "mother", "cid", "ann"), (1, "father", "cid", "bob"), (2, "wed", "bob", "ann"),
            (3, "sibling", "dot", "cid"),
        ])

    def test_each_kind_leads_by_its_turning(self):
        # In this land no two of the turnings of ties are alike, forth or back.
        for kind, turn in zip(TIES, [(4, 0, 1, 2, 3), (3, 4, 0, 2, 1), (1, 3, 2, 4, 0), (0, 1, 2, 3, 4)]):
            for section in range(5):
                people = "one/m other/m" if kind == "father" else "one/m other/w"
                hearth = filled(CROOKED, people, [(kind, "one", "other"), ("said", "one", section)])
                self.assertEqual(dealings_of(hearth), [{"one": section, "other": turn[section]}])
                self.assertEqual(refused_with(hearth.say, "other", (turn[section] + 1) % 5), "Barred")
                self.assertEqual(hearth.say("other", turn[section]), 2)

    def test_several_weddings(self):
        hearth = filled(KARIERA, "ann/w bea/w bob/m cid/m")
        for number, (man, woman) in enumerate(itertools.product(["bob", "cid"], ["ann", "bea"])):
            self.assertEqual(hearth.tie("wed", man, woman), number)
        self.assertEqual(len(hearth.kept()), 4)

    def test_one_may_be_mother_of_many_and_wed_too(self):
        hearth = filled(RING, "ann/w bea/w bob/m cid/m")
        for number, child in enumerate(["bea", "bob", "cid"]):
            self.assertEqual(hearth.tie("mother", child, "ann"), number)
        self.assertEqual(hearth.tie("sibling", "bea", "bob"), 3)
        self.assertEqual(hearth.tie("sibling", "bob", "cid"), 4)

    def test_ties_of_all_kinds_between_the_same_two(self):
        hearth = filled(STILL_LAND, "bob/m ann/w", [(kind, "bob", "ann") for kind in ("mother", "wed", "sibling")])
        self.assertEqual([fact[1] for fact in hearth.kept()], ["mother", "wed", "sibling"])


class Refusals(unittest.TestCase):
    def setUp(self):
        self.hearth = filled(KARIERA, "ann/w bea/w bob/m cid/m dan/m eva/w", [
            ("mother", "cid", "ann"), ("father", "cid", "bob"), ("sibling", "dan", "cid"), ("said", "eva", 2),
        ])
        self.hearth.person("fay", "woman")
        self.hearth.undo()
        self.before = all_told(self.hearth)

    def refused(self, name, kind, one, other):
        self.assertEqual(refused_with(self.hearth.tie, kind, one, other), name, (kind, one, other))
        self.assertEqual(all_told(self.hearth), self.before)

    def test_bad_word(self):
        for kind in NO_KINDS:
            self.refused("BadWord", kind, "ann", "bob")

    def test_bad_word_ahead_of_no_person(self):
        for kind in NO_KINDS:
            self.refused("BadWord", kind, "zed", "bob")
            self.refused("BadWord", kind, "zed", "fay")

    def test_no_person(self):
        for kind, name in itertools.product(TIES, STRANGERS + ["fay"]):
            self.refused("NoPerson", kind, name, "ann")
            self.refused("NoPerson", kind, "ann", name)
            self.refused("NoPerson", kind, name, "bob")
            self.refused("NoPerson", kind, "bob", name)
            self.refused("NoPerson", kind, name, name)

    def test_no_person_ahead_of_wrong_side(self):
        self.refused("NoPerson", "mother", "zed", "bob")
        self.refused("NoPerson", "father", "zed", "ann")
        self.refused("NoPerson", "wed", "zed", "bob")
        self.refused("NoPerson", "wed", "ann", "zed")

    def test_wrong_side(self):
        self.refused("WrongSide", "mother", "ann", "bob")
        self.refused("WrongSide", "mother", "dan", "bob")
        self.refused("WrongSide", "father", "bob", "ann")
        self.refused("WrongSide", "father", "eva", "bea")
        self.refused("WrongSide", "wed", "ann", "bob")
        self.refused("WrongSide", "wed", "bob", "dan")
        self.refused("WrongSide", "wed", "eva", "ann")
        self.refused("WrongSide", "wed", "bob", "bob")
        self.refused("WrongSide", "wed", "eva", "eva")

    def test_wrong_side_ahead_of_twice(self):
        self.refused("WrongSide", "mother", "cid", "bob")
        self.refused("WrongSide", "father", "cid", "ann")

    def test_wrong_side_ahead_of_own_elder(self):
        self.refused("WrongSide", "mother", "ann", "cid")
        self.refused("WrongSide", "father", "ann", "ann")
        self.refused("WrongSide", "mother", "bob", "bob")

    def test_twice(self):
        self.refused("Twice", "mother", "cid", "ann")
        self.refused("Twice", "father", "cid", "bob")
        self.refused("Twice", "sibling", "dan", "cid")
        self.refused("Twice", "sibling", "cid", "dan")

    def test_the_same_wedding_twice(self):
        self.hearth.tie("wed", "bob", "ann")
        self.assertEqual(refused_with(self.hearth.tie, "wed", "bob", "ann"), "Twice")

    def test_a_sibling_of_oneself(self):
        for name in self.hearth.people():
            self.refused("Twice", "sibling", name, name)

    def test_a_second_mother_or_father(self):
        self.refused("Twice", "mother", "cid", "bea")
        self.refused("Twice", "mother", "cid", "eva")
        self.refused("Twice", "father", "cid", "dan")

    def test_twice_ahead_of_own_elder(self):
        self.refused("Twice", "father", "cid", "cid")
        self.hearth.tie("mother", "eva", "bea")
        self.assertEqual(refused_with(self.hearth.tie, "mother", "eva", "eva"), "Twice")
        self.hearth.tie("father", "bea", "dan")
        self.hearth.tie("father", "dan", "bob")
        self.assertEqual(refused_with(self.hearth.tie, "father", "dan", "dan"), "Twice")

    def test_twice_ahead_of_barred(self):
        # cid's mother, once more and as another one, who by her section can't be it.
        hearth = filled(KARIERA, "ann/w bea/w cid/m dan/m", [
            ("mother", "cid", "ann"), ("said", "cid", 0), ("said", "bea", 0), ("sibling", "dan", "cid"),
        ])
        self.assertEqual(refused_with(hearth.tie, "mother", "cid", "bea"), "Twice")
        self.assertEqual(refused_with(hearth.tie, "sibling", "cid", "dan"), "Twice")

    def test_a_mother_behind_a_taken_out_one(self):
        self.hearth.take(0)
        self.assertEqual(self.hearth.tie("mother", "cid", "bea"), 4)
        self.assertEqual(refused_with(self.hearth.tie, "mother", "cid", "ann"), "Twice")
        self.hearth.take(2)
        self.assertEqual(self.hearth.tie("sibling", "cid", "dan"), 5)

    def test_of_two_that_are_due_the_one_told_first(self):
        # Each row of this book against each rule by itself: the first rule that is due is the refusal.
        hearth = self.hearth
        names, sides = hearth.people() + ["zed"], {name: hearth.side_of(name) for name in hearth.people()}
        told = [fact[1:] for fact in hearth.kept()]
        for kind, one, other in itertools.product(TIES + ["said", ""], names, names):
            due = []
            if kind not in TIES:
                due.append("BadWord")
            if one not in sides or other not in sides:
                due.append("NoPerson")
            if kind == "wed" and (sides.get(one), sides.get(other)) != ("man", "woman"):
                due.append("WrongSide")
            if (kind, sides.get(other)) in (("mother", "man"), ("father", "woman")):
                due.append("WrongSide")
            if kind == "sibling" and (one == other or {one, other} == {"cid", "dan"}):
                due.append("Twice")
            if (kind, one) in (("mother", "cid"), ("father", "cid")) or (kind, one, other) in told:
                due.append("Twice")
            if kind in ("mother", "father") and (one == other or (one in ("ann", "bob") and other == "cid")):
                due.append("OwnElder")
            if due:
                self.refused(due[0], kind, one, other)


class OwnElders(unittest.TestCase):
    def line_stands(self, hearth, kind, child, parent, line):
        self.assertIsInstance(line, list)
        self.assertEqual((line[0], line[-1]), (parent, child))
        parents = [fact[2:] for fact in hearth.kept() if fact[1] in ("mother", "father")]
        for one, other in zip(line, line[1:]):
            self.assertIn((one, other), parents)

    def refused(self, hearth, kind, child, parent):
        before = all_told(hearth)
        raised = refusal(hearth.tie, kind, child, parent)
        self.assertIs(type(raised), OwnElder)
        self.assertEqual(raised.word, "own elder")
        self.line_stands(hearth, kind, child, parent, raised.line)
        self.assertEqual(all_told(hearth), before)
        return raised.line

    def test_of_oneself(self):
        hearth = filled(KARIERA, "ann/w bob/m")
        self.assertEqual(self.refused(hearth, "mother", "ann", "ann"), ["ann"])
        self.assertEqual(self.refused(hearth, "father", "bob", "bob"), ["bob"])

    def test_of_one_step(self):
        hearth = filled(KARIERA, "ann/w bob/m cid/m eva/w", [("mother", "eva", "ann"), ("father", "cid", "bob")])
        self.assertEqual(self.refused(hearth, "mother", "ann", "eva"), ["eva", "ann"])
        self.assertEqual(self.refused(hearth, "father", "bob", "cid"), ["cid", "bob"])

    def test_of_several_steps(self):
        hearth = filled(RING, "a/w b/m c/w d/m e/w f/m", [
            ("mother", "b", "a"), ("father", "c", "b"), ("mother", "d", "c"), ("father", "e", "d"),
        ])
        self.assertEqual(self.refused(hearth, "mother", "a", "e"), ["e", "d", "c", "b", "a"])
        self.assertEqual(self.refused(hearth, "father", "a", "d"), ["d", "c", "b", "a"])
        self.assertEqual(self.refused(hearth, "father", "b", "d"), ["d", "c", "b"])

    def test_of_several_lines(self):
        hearth = filled(STILL_LAND, "a/w b/w c/m d/w", [
            ("mother", "b", "a"), ("mother", "c", "a"), ("mother", "d", "b"), ("father", "d", "c"),
        ])
        line = self.refused(hearth, "mother", "a", "d")
        self.assertIn(line, [["d", "b", "a"], ["d", "c", "a"]])

    def test_own_elder_ahead_of_barred(self):
        # By her section ann can't have eva for a mother either.
        hearth = filled(KARIERA, "ann/w eva/w", [("mother", "eva", "ann"), ("said", "ann", 0)])
        hearth.take(0)
        self.assertEqual(hearth.say("eva", 1), 2)
        self.assertEqual(refused_with(hearth.tie, "mother", "ann", "eva"), "Barred")
        self.assertEqual(refused_with(hearth.tie, "mother", "ann", "ann"), "OwnElder")

    def test_siblings_and_weddings_make_no_elders(self):
        hearth = filled(STILL_LAND, "a/w b/m c/w", [("mother", "c", "a"), ("wed", "b", "c"), ("sibling", "b", "c")])
        self.assertEqual(hearth.tie("father", "a", "b"), 3)
        self.refused(hearth, "father", "b", "b")
        self.refused(hearth, "mother", "b", "c")

    def test_a_line_that_was_taken_out(self):
        hearth = filled(KARIERA, "ann/w bea/w eva/w", [("mother", "eva", "bea"), ("mother", "bea", "ann")])
        self.assertEqual(self.refused(hearth, "mother", "ann", "eva"), ["eva", "bea", "ann"])
        hearth.take(0)
        self.assertEqual(hearth.tie("mother", "ann", "eva"), 2)
        self.assertEqual(self.refused(hearth, "mother", "eva", "bea"), ["bea", "ann", "eva"])

    def test_a_told_line_that_is_changed_changes_nothing(self):
        hearth = filled(KARIERA, "ann/w eva/w", [("mother", "eva", "ann")])
        self.refused(hearth, "mother", "ann", "eva").clear()
        self.assertEqual(self.refused(hearth, "mother", "ann", "eva"), ["eva", "ann"])

    def test_by_chance(self):
        for seed in range(10):
            chance, seen = random.Random(seed), 0
            names = [f"p{number}" for number in range(8)]
            hearth = filled(STILL_LAND, " ".join(f"{name}/{side}" for name, side in zip(names, "mwmwmwmw")))
            for step in range(60):
                kind, child, parent = chance.choice(TIES[:2]), chance.choice(names), chance.choice(names)
                if done(hearth, ("tie", kind, child, parent)) == "OwnElder":
                    self.refused(hearth, kind, child, parent)
                    seen += 1
            self.assertGreater(seen, 2)


class BarredTies(unittest.TestCase):
    def refused(self, hearth, kind, one, other, number):
        """Holds the papers of a barred tie against a plain walk, the refused tie among the facts."""
        before = all_told(hearth)
        raised = refusal(hearth.tie, kind, one, other)
        self.assertIs(type(raised), Barred)
        self.assertEqual((raised.word, raised.whom), ("barred", one))
        self.assertIsInstance(raised.walks, list)
        self.assertEqual(len(raised.walks), hearth.land.size)
        facts = hearth.kept() + [(number, kind, one, other)]
        for section, paper in enumerate(raised.walks):
            self.assertTrue(shows(hearth.land, facts, one, section, paper), paper)
            self.assertIs(stands(hearth.land, facts, one, section, paper), True)
            self.assertIsInstance(paper, tuple)
            self.assertIsInstance(paper[0], list)
        self.assertEqual(all_told(hearth), before)
        return raised.walks

    def test_by_a_round(self):
        # A mother is of another section than her child: so they are no siblings.
        hearth = filled(KARIERA, "ann/w cid/m", [("mother", "cid", "ann")])
        self.refused(hearth, "sibling", "ann", "cid", 1)
        self.refused(hearth, "sibling", "cid", "ann", 1)
        self.refused(hearth, "wed", "cid", "ann", 1)

    def test_by_sayings(self):
        hearth = filled(KARIERA, "ann/w cid/m", [("said", "ann", 0), ("said", "cid", 0)])
        self.refused(hearth, "mother", "cid", "ann", 2)
        self.refused(hearth, "wed", "cid", "ann", 2)
        self.assertEqual(hearth.tie("sibling", "cid", "ann"), 2)

    def test_the_number_it_would_have_had(self):
        hearth = filled(KARIERA, "ann/w bea/w cid/m", [
            ("said", "ann", 0), ("said", "bea", 0), ("said", "cid", 0), ("sibling", "ann", "bea"),
        ])
        hearth.take(1)
        hearth.take(3)
        walks = self.refused(hearth, "mother", "cid", "ann", 4)
        self.assertIn(4, [number for walk, end in walks for number, way in walk])
        self.assertEqual(hearth.tie("sibling", "cid", "ann"), 4)
        hearth.undo()
        self.refused(hearth, "wed", "cid", "ann", 4)
        hearth.undo()
        self.refused(hearth, "wed", "cid", "ann", 4)

    def test_over_long_rows_of_ties(self):
        names = [f"p{number}" for number in range(30)]
        hearth = Hearth(RING)
        for name in names:
            hearth.person(name, "man")
        for child, father in zip(names, names[1:]):
            hearth.tie("father", child, father)
        self.refused(hearth, "sibling", "p0", "p29", 29)
        self.refused(hearth, "sibling", "p29", "p0", 29)
        self.refused(hearth, "sibling", "p5", "p6", 29)
        hearth.say("p29", 1)
        hearth.say("p3", (1 - 26 * 2) % 3)
        self.assertEqual(hearth.tie("sibling", "p0", "p27"), 31)

    def test_told_walks_that_are_changed_change_nothing(self):
        hearth = filled(KARIERA, "ann/w cid/m", [("mother", "cid", "ann")])
        before = all_told(hearth)
        walks = self.refused(hearth, "sibling", "ann", "cid", 1)
        walks[0][0].clear()
        walks.clear()
        self.assertEqual(all_told(hearth), before)
        self.refused(hearth, "sibling", "ann", "cid", 1)

    def test_just_where_no_dealing_would_be_left(self):
        for land in LANDS[::5]:
            chance, kept = random.Random(land.size), 0
            hearth = filled(land, "a/w b/m c/w d/m" if land.size < 6 else "a/w b/m c/w")
            names = hearth.people()
            for step in range(30):
                kind, one, other = chance.choice(TIES), chance.choice(names), chance.choice(names)
                number = len(hearth.kept())
                left = all_dealings(land, names, hearth.kept() + [(number, kind, one, other)])
                told = done(hearth.twin(), ("tie", kind, one, other))
                if told == "Barred":
                    self.assertEqual(left, [])
                    self.refused(hearth, kind, one, other, number)
                elif told == number:
                    self.assertNotEqual(left, [])
                    hearth.tie(kind, one, other)
                    kept += 1
            self.assertGreater(kept, 2)


if __name__ == "__main__":
    unittest.main()
