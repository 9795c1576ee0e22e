"""Deeds of a book, taking out, undoing and redoing: points 4, 11 and 16."""

import itertools
import random
import unittest

from kinhearth.hearth import Hearth
from tests.helper import (
    CROOKED, FIFTY, KARIERA, LANDS, RING, PlainBook, all_told, contents, done, filled, next_number, refused_with,
    some_deed, soon,
)

PEOPLE = "ann/w bob/m cid/m"
FACTS = [("mother", "cid", "ann"), ("wed", "bob", "ann"), ("said", "cid", 0), ("father", "cid", "bob")]


class Taking(unittest.TestCase):
    def test_tells_nothing(self):
        self.assertIsNone(filled(KARIERA, PEOPLE, FACTS).take(2))

    def test_as_if_the_fact_had_never_been_told(self):
        for places in itertools.permutations(range(4), 2):
            hearth = filled(KARIERA, PEOPLE, FACTS)
            for place in places:
                hearth.take(place)
            rest = [fact for place, fact in enumerate(FACTS) if place not in places]
            plain = filled(KARIERA, PEOPLE, rest)
            self.assertEqual([fact[1:] for fact in hearth.kept()], rest)
            self.assertEqual(contents(hearth)[4:], contents(plain)[4:])
            for kind, one, other in FACTS:
                self.assertIs(hearth.has(kind, one, other), plain.has(kind, one, other))
            for place in places:
                deed = ("say", *FACTS[place][1:]) if FACTS[place][0] == "said" else ("tie", *FACTS[place])
                self.assertEqual(done(hearth, deed), 4 + places.index(place))

    def test_numbers_are_not_given_a_second_time(self):
        hearth = filled(KARIERA, PEOPLE, FACTS)
        for number in range(4, 10):
            hearth.take(number - 1)
            self.assertEqual(hearth.tie("father", "cid", "bob"), number)
            self.assertEqual(hearth.kept(), [
                (0, "mother", "cid", "ann"), (1, "wed", "bob", "ann"), (2, "said", "cid", 0),
                (number, "father", "cid", "bob"),
            ])

    def test_no_fact(self):
        hearth = filled(KARIERA, PEOPLE, FACTS)
        hearth.take(1)
        before = all_told(hearth)
        for number in (4, 5, -1, -2, -4, 1, FIFTY, -FIFTY):
            self.assertEqual(refused_with(hearth.take, number), "NoFact", number)
        self.assertEqual(all_told(hearth), before)

    def test_no_fact_in_an_empty_book(self):
        for number in (0, 1, -1, FIFTY):
            self.assertEqual(refused_with(Hearth(KARIERA).take, number), "NoFact")

    def test_what_a_fact_barred_is_let_by_behind_its_taking_out(self):
        hearth = filled(KARIERA, PEOPLE, FACTS)
        self.assertEqual(refused_with(hearth.tie, "sibling", "cid", "ann"), "Barred")
        hearth.take(0)
        self.assertEqual(refused_with(hearth.tie, "sibling", "cid", "ann"), "Barred")
        hearth.take(3)
        self.assertEqual(hearth.tie("sibling", "cid", "ann"), 4)
        self.assertEqual(refused_with(hearth.tie, "mother", "cid", "ann"), "Barred")


class UndoingAndRedoing(unittest.TestCase):
    def test_nothing_left(self):
        hearth = Hearth(KARIERA)
        self.assertEqual(refused_with(hearth.undo), "NothingLeft")
        self.assertEqual(refused_with(hearth.redo), "NothingLeft")
        hearth.person("ann", "woman")
        self.assertEqual(refused_with(hearth.redo), "NothingLeft")
        hearth.undo()
        self.assertEqual(refused_with(hearth.undo), "NothingLeft")
        self.assertEqual((hearth.undoable(), hearth.redoable()), (0, 1))
        hearth.redo()
        self.assertEqual(refused_with(hearth.redo), "NothingLeft")
        self.assertEqual((hearth.undoable(), hearth.redoable()), (1, 0))

    def test_they_tell_nothing(self):
        hearth = filled(KARIERA, PEOPLE, FACTS)
        self.assertIsNone(hearth.undo())
        self.assertIsNone(hearth.redo())

    def test_all_the_way_back_and_forth(self):
        hearth, states = Hearth(KARIERA), []
        deeds = [("person", "ann", "woman"), ("person", "bob", "man"), ("person", "cid", "man")]
        deeds += [("tie", "mother", "cid", "ann"), ("say", "cid", 0), ("tie", "wed", "bob", "ann"), ("take", 1)]
        deeds += [("say", "bob", 3), ("take", 0), ("person", "dot", "woman"), ("tie", "sibling", "dot", "bob")]
        for deed in deeds:
            states.append(contents(hearth))
            done(hearth, deed)
        states.append(contents(hearth))
        for turn in range(2):
            for many in range(len(deeds), 0, -1):
                self.assertEqual((contents(hearth), hearth.undoable()), (states[many], many))
                hearth.undo()
                self.assertEqual(hearth.redoable(), len(deeds) - many + 1)
            for many in range(len(deeds)):
                self.assertEqual((contents(hearth), hearth.undoable()), (states[many], many))
                hearth.redo()
                self.assertEqual(hearth.redoable(), len(deeds) - many - 1)
        self.assertEqual(contents(hearth), states[-1])

    def test_each_deed_leaves_nothing_to_redo(self):
        for deed in (("person", "dot", "woman"), ("tie", "sibling", "bob", "cid"), ("say", "ann", 2), ("take", 0)):
            hearth = filled(KARIERA, PEOPLE, FACTS[:2])
            hearth.tie("father", "cid", "bob")
            hearth.undo()
            hearth.take(1)
            hearth.undo()
            self.assertEqual(hearth.redoable(), 1)
            if deed[1] == "sibling":
                hearth.undo()
                hearth.undo()
                self.assertEqual(hearth.redoable(), 3)
            self.assertNotIsInstance(done(hearth, deed), str)
            self.assertEqual(hearth.redoable(), 0)
            self.assertEqual(refused_with(hearth.redo), "NothingLeft")

    def test_a_refused_deed_leaves_what_can_be_redone(self):
        refused = [
            ("person", "Dot", "woman"), ("person", "ann", "man"), ("tie", "said", "ann", "bob"),
            ("tie", "wed", "dot", "ann"), ("tie", "wed", "ann", "bob"), ("tie", "mother", "cid", "ann"),
            ("tie", "mother", "ann", "ann"), ("tie", "sibling", "ann", "cid"), ("say", "dot", 1), ("say", "ann", 9),
            ("say", "cid", 0), ("say", "cid", 1), ("take", 3), ("take", -1),
        ]
        hearth = filled(KARIERA, PEOPLE, FACTS)
        states = [contents(hearth)]
        hearth.undo()
        before = all_told(hearth)
        for deed in refused:
            self.assertIsInstance(done(hearth, deed), str, deed)
            self.assertEqual(all_told(hearth), before)
        hearth.redo()
        self.assertEqual([contents(hearth)], states)

    def test_the_next_number_behind_an_undoing(self):
        hearth = filled(KARIERA, PEOPLE, FACTS)
        hearth.undo()
        self.assertEqual(hearth.say("ann", 2), 3)
        hearth.take(3)
        self.assertEqual(next_number(hearth), 4)
        hearth.undo()
        self.assertEqual(next_number(hearth), 4)
        hearth.undo()
        self.assertEqual(next_number(hearth), 3)
        hearth.undo()
        self.assertEqual(next_number(hearth), 2)
        hearth.redo()
        self.assertEqual(next_number(hearth), 3)
        self.assertEqual(hearth.tie("father", "cid", "bob"), 3)
        hearth.take(3)
        hearth.take(0)
        hearth.undo()
        self.assertEqual(hearth.say("bob", 3), 4)
        self.assertEqual([fact[0] for fact in hearth.kept()], [0, 1, 2, 4])

    def test_one_who_was_undone_is_gone(self):
        hearth = filled(KARIERA, "ann/w bob/m")
        hearth.undo()
        self.assertEqual(hearth.people(), ["ann"])
        self.assertEqual(refused_with(hearth.side_of, "bob"), "NoPerson")
        self.assertEqual(refused_with(hearth.tie, "sibling", "ann", "bob"), "NoPerson")
        hearth.person("bob", "woman")
        self.assertEqual(hearth.side_of("bob"), "woman")
        self.assertEqual(hearth.tie("mother", "ann", "bob"), 0)

    def test_an_undone_tie_bars_nothing(self):
        hearth = filled(KARIERA, "ann/w bob/m cid/m", [("wed", "bob", "ann")])
        self.assertEqual(refused_with(hearth.tie, "sibling", "bob", "ann"), "Barred")
        hearth.undo()
        self.assertEqual(hearth.tie("sibling", "bob", "ann"), 0)
        self.assertEqual(refused_with(hearth.tie, "wed", "bob", "ann"), "Barred")

    def test_an_undone_mother_or_father_is_no_elder(self):
        hearth = filled(RING, "ann/w bea/w", [("mother", "ann", "bea")])
        hearth.undo()
        self.assertEqual(hearth.tie("mother", "bea", "ann"), 0)
        self.assertEqual(refused_with(hearth.tie, "mother", "ann", "bea"), "OwnElder")
        hearth.undo()
        hearth.redo()
        self.assertEqual(refused_with(hearth.tie, "mother", "ann", "bea"), "OwnElder")
        self.assertEqual(refused_with(hearth.tie, "mother", "bea", "ann"), "Twice")


class AgainstAPlainBook(unittest.TestCase):
    """Rows of deeds, undoings, redoings and refused ones, held against a plain book that keeps all its states."""

    def held_against(self, land, seed, many, people):
        """What the deeds told, each once."""
        chance, seen = random.Random(seed), set()
        hearth, plain = Hearth(land), PlainBook(land)
        names = ["ann", "bob", "cid", "dot", "eve"][:people]
        for step in range(many):
            if chance.random() < 0.25:
                deed = ("person", chance.choice(names + ["Ann"]), chance.choice(["man", "woman", "man", "woman", "x"]))
            else:
                deed = some_deed(chance, land, names, range(-1, len(plain.state()[1]) + 4))
            told = done(hearth, deed)
            self.assertEqual(told, plain.done(deed), (land.mother, land.wife, seed, step, deed))
            self.assertEqual(all_told(hearth), plain.all_told(), (land.mother, land.wife, seed, step, deed))
            seen.add(told)
        return seen

    def test_small_lands(self):
        for number, land in enumerate(LANDS[:40:2]):
            self.held_against(land, number, 60, 4)

    def test_other_lands(self):
        for number, land in enumerate([KARIERA, RING, CROOKED] + LANDS[-10:-3]):
            self.held_against(land, number, 50, 4 if land.size < 6 else 3)

    def test_long_rows(self):
        with soon(60):
            seen = self.held_against(RING, 77, 400, 5) | self.held_against(KARIERA, 78, 400, 4)
        refusals = "BadName Taken NoPerson WrongSide Twice OwnElder Barred NoSection NoFact NothingLeft"
        self.assertLessEqual(set(refusals.split()), seen)


if __name__ == "__main__":
    unittest.main()
