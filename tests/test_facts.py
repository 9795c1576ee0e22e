"""Facts as rows, and the turnings of their kinds: what points 1 and 11 to 13 say of them."""

import itertools
import random
import unittest

from kinhearth.errors import BadWord
from kinhearth.facts import BACK, FORTH, SAID, fact_fits, fact_key, is_tie, keep_fact, spoken_of, tie_step, tie_turn
from kinhearth.joins import Joins
from kinhearth.terms import turn_of
from kinhearth.turns import back
from tests.helper import CROOKED, KARIERA, LANDS, RING, TIES, kept_by

NO_KINDS = ["", "said", "m", "f", "w", "s", "Mother", "mother ", " mother", "mothers", "wife", "mother\n", "child"]
NAMES = ["ann", "bob", "cid"]


def all_dealings(land):
    return [dict(zip(NAMES, sections)) for sections in itertools.product(range(land.size), repeat=len(NAMES))]


def some_facts(chance, land, many):
    facts = []
    for number in range(many):
        kind = chance.choice(TIES + [SAID])
        other = chance.randrange(land.size) if kind == SAID else chance.choice(NAMES)
        facts.append((number, kind, chance.choice(NAMES), other))
    return facts


class TurningsOfKinds(unittest.TestCase):
    def test_each_kind(self):
        self.assertEqual(tie_turn(CROOKED, "mother"), (4, 0, 1, 2, 3))
        self.assertEqual(tie_turn(CROOKED, "father"), (3, 4, 0, 2, 1))
        self.assertEqual(tie_turn(CROOKED, "wed"), (1, 3, 2, 4, 0))
        self.assertEqual(tie_turn(CROOKED, "sibling"), (0, 1, 2, 3, 4))

    def test_they_are_those_of_their_letters(self):
        for land in LANDS:
            for kind, letter in zip(TIES, "mfws"):
                self.assertEqual(tie_turn(land, kind), turn_of(land, letter))
                self.assertIsInstance(tie_turn(land, kind), tuple)

    def test_refuses_what_is_no_kind_of_tie(self):
        for kind in NO_KINDS:
            with self.subTest(kind=kind):
                self.assertRaises(BadWord, tie_turn, KARIERA, kind)

    def test_kinds_of_ties(self):
        for kind in TIES:
            self.assertIs(is_tie(kind), True)
        for kind in NO_KINDS:
            self.assertIs(is_tie(kind), False)


class StepsOfTies(unittest.TestCase):
    def test_forth_and_back(self):
        self.assertEqual((FORTH, BACK), (1, -1))
        for kind, letter, letter_back in zip(TIES, "mfws", "ckhs"):
            fact = (7, kind, "ann", "bob")
            self.assertEqual(tie_step(fact, FORTH), ("ann", letter, "bob"))
            self.assertEqual(tie_step(fact, BACK), ("bob", letter_back, "ann"))

    def test_their_turnings_lead_back(self):
        for land in LANDS:
            for kind in TIES:
                letters = [tie_step((0, kind, "ann", "bob"), way)[1] for way in (FORTH, BACK)]
                self.assertEqual(land.step(letters[0]), tie_turn(land, kind))
                self.assertEqual(land.step(letters[1]), back(tie_turn(land, kind)))


class SameFacts(unittest.TestCase):
    def test_siblings_in_either_order(self):
        self.assertEqual(fact_key("sibling", "ann", "bob"), fact_key("sibling", "bob", "ann"))
        self.assertNotEqual(fact_key("sibling", "ann", "bob"), fact_key("sibling", "ann", "cid"))

    def test_other_ties_in_one_order_alone(self):
        for kind in ("mother", "father", "wed"):
            self.assertEqual(fact_key(kind, "ann", "bob"), fact_key(kind, "ann", "bob"))
            self.assertNotEqual(fact_key(kind, "ann", "bob"), fact_key(kind, "bob", "ann"))

    def test_no_two_unlike_facts_have_one_key(self):
        facts = [(SAID, name, section) for name in NAMES for section in range(8)]
        facts += list(itertools.product(TIES, NAMES, NAMES))
        for one, other in itertools.product(facts, repeat=2):
            same = one == other or (one[0] == other[0] == "sibling" and one[1:] == other[:0:-1])
            self.assertIs(fact_key(*one) == fact_key(*other), same)


class SpokenOf(unittest.TestCase):
    def test_both_of_a_tie(self):
        for kind in TIES:
            self.assertEqual(spoken_of((7, kind, "ann", "bob")), ["ann", "bob"])

    def test_the_one_of_a_saying(self):
        self.assertEqual(spoken_of((7, "said", "ann", 3)), ["ann"])


class Keeping(unittest.TestCase):
    def kept_in_turn(self, land, facts):
        """Keeps facts one by one, and holds them against a count over all dealings."""
        joins, dealings = Joins(land.size), all_dealings(land)
        # Places in another order than the names, so that a name is not mixed up with its place.
        places = {name: joins.add() for name in reversed(NAMES)}
        for fact in facts:
            left = [dealing for dealing in dealings if kept_by(land, dealing, fact)]
            self.assertIs(fact_fits(joins, land, places, fact), left != [])
            self.assertEqual(joins.dealt(), len(dealings))
            self.assertIs(keep_fact(joins, land, places, fact), left != [])
            dealings = left or dealings
            self.assertEqual(joins.dealt(), len(dealings))
            for name in NAMES:
                self.assertEqual(joins.open_at(places[name]), sorted({dealing[name] for dealing in dealings}))

    def test_each_kind(self):
        for land in (KARIERA, RING, CROOKED):
            for kind in TIES:
                self.kept_in_turn(land, [(0, "said", "ann", 1), (1, kind, "ann", "bob"), (2, kind, "cid", "ann")])

    def test_rows_of_facts(self):
        for land in LANDS[::3]:
            chance = random.Random(land.size)
            self.kept_in_turn(land, some_facts(chance, land, 8))

    def test_nothing_that_is_handed_in_is_changed(self):
        joins = Joins(4)
        places = {"ann": joins.add(), "bob": joins.add()}
        self.assertIs(keep_fact(joins, KARIERA, places, (0, "wed", "bob", "ann")), True)
        self.assertIs(keep_fact(joins, KARIERA, places, (1, "mother", "bob", "ann")), False)
        self.assertEqual(places, {"ann": 0, "bob": 1})


if __name__ == "__main__":
    unittest.main()
