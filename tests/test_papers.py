"""Papers: points 14 and 15, `barring` and `stands`."""

import copy
import itertools
import random
import unittest

from kinhearth.papers import barring, stands
from tests.helper import (
    CROOKED, FIFTY, KARIERA, LANDS, RING, TIES, all_dealings, filled, great_book, great_lands, joined_to, shows, soon,
)

# Facts of any names, as no book would have them.
NAMES = ["Ann Lee", "", "bob", "x9"]


def some_facts(chance, land, many, names):
    """Facts with holes between their numbers, now and then great ones, of ties to oneself and told twice too."""
    number, facts = chance.choice([0, 0, 3, FIFTY]), []
    for step in range(many):
        kind = chance.choice(TIES + ["said"] * (chance.random() < 0.5))
        other = chance.randrange(land.size) if kind == "said" else chance.choice(names)
        facts.append((number, kind, chance.choice(names), other))
        number += chance.choice([1, 1, 2, 10, 10 ** 30])
    return facts


def plainly_open(land, facts, person):
    """The sections of a person in the dealings of all who are joined to it."""
    people = sorted(joined_to(facts, person))
    about = [fact for fact in facts if fact[2] in people]
    return {dealt[person] for dealt in all_dealings(land, people, about)}


class Barring(unittest.TestCase):
    def check(self, land, facts, person):
        told = barring(land, facts, person)
        self.assertIsInstance(told, list)
        self.assertEqual(len(told), land.size)
        left = plainly_open(land, facts, person)
        for section, paper in enumerate(told):
            if section in left:
                self.assertIsNone(paper)
            else:
                self.check_paper(land, facts, person, section, paper)
        return told

    def check_paper(self, land, facts, person, section, paper):
        self.assertIsInstance(paper, tuple)
        walk, end = paper
        self.assertIsInstance(walk, list)
        for step in walk:
            self.assertIsInstance(step, tuple)
        self.assertTrue(shows(land, facts, person, section, paper), (facts, person, section, paper))
        self.assertIs(stands(land, facts, person, section, paper), True)

    def test_no_facts(self):
        for land in great_lands():
            self.assertEqual(barring(land, [], "ann"), [None] * land.size)

    def test_one_of_whom_no_fact_speaks(self):
        facts = [(0, "said", "ann", 1), (1, "said", "ann", 2), (2, "mother", "bob", "ann")]
        self.assertEqual(barring(KARIERA, facts, "cid"), [None] * 4)
        self.assertEqual(barring(KARIERA, facts, ""), [None] * 4)

    def test_a_saying(self):
        self.assertEqual(barring(KARIERA, [(7, "said", "ann", 2)], "ann"), [([], 7), ([], 7), None, ([], 7)])

    def test_two_sayings_against_one_another(self):
        told = self.check(KARIERA, [(3, "said", "ann", 2), (5, "said", "ann", 0)], "ann")
        self.assertEqual((told[0], told[2]), (([], 3), ([], 5)))

    def test_a_saying_over_a_tie_either_way(self):
        facts = [(4, "mother", "cid", "ann"), (6, "said", "ann", 0)]
        self.assertEqual(barring(KARIERA, facts, "cid")[0], ([(4, 1)], 6))
        self.assertIsNone(barring(KARIERA, facts, "cid")[2])
        facts = [(4, "mother", "cid", "ann"), (6, "said", "cid", 0)]
        self.assertEqual(barring(KARIERA, facts, "ann")[0], ([(4, -1)], 6))
        self.assertIsNone(barring(KARIERA, facts, "ann")[2])

    def test_a_round(self):
        facts = [(0, "mother", "cid", "ann"), (1, "sibling", "cid", "ann")]
        for person in ("cid", "ann"):
            for paper in self.check(KARIERA, facts, person):
                self.assertIsNone(paper[1])

    def test_ties_to_oneself(self):
        self.assertEqual(barring(CROOKED, [(3, "sibling", "ann", "ann")], "ann"), [None] * 5)
        told = self.check(CROOKED, [(3, "wed", "ann", "ann")], "ann")
        self.assertEqual([paper is None for paper in told], [False, False, True, False, False])
        self.check(CROOKED, [(3, "mother", "ann", "ann"), (4, "father", "ann", "bob"), (9, "said", "bob", 1)], "bob")

    def test_facts_far_off_that_no_dealing_keeps(self):
        # Of those whom no tie joins to the person nothing is asked.
        facts = [(0, "said", "ann", 1), (1, "said", "bob", 0), (2, "said", "bob", 1), (5, "mother", "cid", "cid")]
        self.assertEqual(self.check(KARIERA, facts, "ann"), [([], 0), None, ([], 0), ([], 0)])

    def test_by_chance(self):
        for number, land in enumerate(LANDS):
            chance = random.Random(number)
            names = NAMES if land.size < 6 else NAMES[:3]
            for many in (1, 2, 3, 4, 6, 9):
                facts = some_facts(chance, land, many, names)
                for person in names + ["zed"]:
                    self.check(land, facts, person)

    def test_facts_that_are_handed_in_stay(self):
        for seed in range(20):
            chance = random.Random(seed)
            facts = some_facts(chance, CROOKED, 6, NAMES)
            before = copy.deepcopy(facts)
            told = barring(CROOKED, facts, "bob")
            self.assertEqual(facts, before)
            again = copy.deepcopy(told)
            for paper in told:
                if paper:
                    paper[0].append((0, 1))
            told.clear()
            self.assertEqual(barring(CROOKED, facts, "bob"), again)

    def test_as_a_book_has_them(self):
        hearth = filled(RING, "ann/w bob/m cid/m dot/w", [
            ("mother", "cid", "ann"), ("father", "cid", "bob"), ("wed", "cid", "dot"), ("said", "dot", 0),
        ])
        hearth.take(1)
        for person in hearth.people():
            self.check(RING, hearth.kept(), person)

    def test_great_books(self):
        with soon(30):
            for land in great_lands()[2::2]:
                hearth, dealt = great_book(land, 5)
                facts = hearth.kept()
                for person in hearth.people()[::9]:
                    told = barring(land, facts, person)
                    self.assertIsNone(told[dealt[person]])
                    for section, paper in enumerate(told):
                        if paper is not None:
                            self.check_paper(land, facts, person, section, paper)

    def test_a_long_walk(self):
        with soon():
            names = [f"p{number}" for number in range(200)]
            facts = [(number, "mother", one, other) for number, (one, other) in enumerate(zip(names, names[1:]))]
            facts.append((500, "said", "p199", 0))
            self.assertEqual(len(barring(CROOKED, facts, "p0")[0][0]), 199)
            for section, paper in enumerate(barring(CROOKED, facts, "p0")):
                if paper is not None:
                    self.check_paper(CROOKED, facts, "p0", section, paper)
            facts[-1] = (500, "sibling", "p199", "p0")
            for section, paper in enumerate(barring(CROOKED, facts, "p100")):
                self.check_paper(CROOKED, facts, "p100", section, paper)


class Stands(unittest.TestCase):
    FACTS = [
        (2, "mother", "cid", "ann"), (5, "father", "cid", "bob"), (6, "wed", "bob", "ann"), (9, "said", "ann", 3),
        (FIFTY, "sibling", "dot", "cid"),
    ]

    def stands(self, person, section, walk, end):
        paper, facts = (list(walk), end), list(self.FACTS)
        told = stands(CROOKED, facts, person, section, paper)
        self.assertEqual((paper, facts), ((list(walk), end), self.FACTS))
        self.assertIs(told, shows(CROOKED, self.FACTS, person, section, (walk, end)))
        return told

    def test_by_a_saying(self):
        for section in range(5):
            self.assertIs(self.stands("ann", section, [], 9), section != 3)
            self.assertIs(self.stands("cid", section, [(2, 1)], 9), section != 4)
            self.assertIs(self.stands("bob", section, [(6, 1)], 9), section != 1)
            self.assertIs(self.stands("dot", section, [(FIFTY, 1), (2, 1)], 9), section != 4)

    def test_by_a_round(self):
        for section in range(5):
            self.assertIs(self.stands("cid", section, [(2, 1), (6, -1), (5, -1)], None), False)
            self.assertIs(self.stands("cid", section, [(2, 1), (2, -1)], None), False)
            self.assertIs(self.stands("cid", section, [], None), False)
        facts = [(0, "mother", "cid", "ann"), (1, "sibling", "cid", "ann")]
        self.assertIs(stands(CROOKED, facts, "cid", 0, ([(0, 1), (1, -1)], None)), True)
        self.assertIs(stands(CROOKED, facts, "cid", 0, ([(0, 1), (0, -1)], None)), False)
        self.assertIs(stands(CROOKED, facts, "cid", 0, ([(1, 1), (0, -1)], None)), True)
        self.assertIs(stands(CROOKED, facts, "cid", 0, ([(0, 1)], None)), False)
        self.assertIs(stands(CROOKED, facts, "ann", 0, ([(0, -1), (1, 1)], None)), True)
        self.assertIs(stands(CROOKED, facts, "ann", 0, ([(0, 1), (1, 1)], None)), False)

    def test_a_step_left_out_exchanged_or_gone_the_other_way(self):
        walk = [(FIFTY, 1), (5, 1), (6, 1)]
        self.assertIs(self.stands("dot", 0, walk, 9), True)
        for place in range(3):
            self.assertIs(self.stands("dot", 0, walk[:place] + walk[place + 1:], 9), False)
            number, way = walk[place]
            self.assertIs(self.stands("dot", 0, walk[:place] + [(number, -way)] + walk[place + 1:], 9), False)
        for order in itertools.permutations(walk):
            self.assertIs(self.stands("dot", 0, list(order), 9), list(order) == walk)

    def test_numbers_that_do_not_fit(self):
        for number in (0, 1, 3, 4, 7, 9, -1, -2, 10, FIFTY + 1, -FIFTY):
            self.assertIs(self.stands("cid", 0, [(number, 1)], 9), False)
            self.assertIs(self.stands("ann", 0, [(number, 1)], 9), False)

    def test_ways_that_do_not_fit(self):
        for way in (0, 2, -2, 3, FIFTY, -FIFTY):
            self.assertIs(self.stands("cid", 0, [(2, way)], 9), False)
            self.assertIs(self.stands("ann", 0, [(2, way), (2, 1)], 9), False)

    def test_ends_that_do_not_fit(self):
        for end in (None, 0, 1, 2, 5, 6, 8, 10, -1, FIFTY, FIFTY + 1):
            self.assertIs(self.stands("cid", 0, [(2, 1)], end), False)
            self.assertIs(self.stands("ann", 0, [], end), False)
        self.assertIs(self.stands("cid", 0, [], 9), False)
        self.assertIs(self.stands("bob", 0, [], 9), False)

    def test_true_and_false_are_no_numbers(self):
        facts = [(0, "said", "ann", 1), (1, "sibling", "bob", "ann")]
        self.assertIs(stands(KARIERA, facts, "bob", 0, ([(1, 1)], 0)), True)
        self.assertIs(stands(KARIERA, facts, "bob", 0, ([(True, 1)], 0)), False)
        self.assertIs(stands(KARIERA, facts, "bob", 0, ([(1, True)], 0)), False)
        self.assertIs(stands(KARIERA, facts, "bob", 0, ([(1, 1)], False)), False)

    def test_numbers_that_are_no_sections(self):
        for section in (-1, -5, 5, FIFTY, -FIFTY):
            self.assertIs(stands(CROOKED, self.FACTS, "ann", section, ([], 9)), False)
            self.assertIs(stands(CROOKED, self.FACTS, "cid", section, ([(2, 1)], 9)), False)

    def test_one_of_whom_no_fact_speaks(self):
        for end in (None, 9, 0):
            self.assertIs(self.stands("zed", 0, [], end), False)
            self.assertIs(self.stands("zed", 0, [(2, 1)], end), False)

    def test_ties_to_oneself(self):
        facts = [(3, "wed", "ann", "ann")]
        for section, way in itertools.product(range(5), (1, -1)):
            self.assertIs(stands(CROOKED, facts, "ann", section, ([(3, way)], None)), section != 2)
            self.assertIs(stands(CROOKED, facts, "bob", section, ([(3, way)], None)), False)

    def test_papers_by_chance(self):
        seen = {True: 0, False: 0}
        for number, land in enumerate(LANDS):
            chance = random.Random(number)
            facts = some_facts(chance, land, 6, NAMES[:3])
            numbers = [fact[0] for fact in facts] + [0, 1]
            for step in range(100):
                walk = [(chance.choice(numbers), chance.choice([1, -1])) for tie in range(chance.randrange(4))]
                paper = (walk, chance.choice([None, None] + numbers))
                person, section = chance.choice(NAMES[:3]), chance.randrange(land.size)
                expected = shows(land, facts, person, section, paper)
                self.assertIs(stands(land, facts, person, section, paper), expected)
                seen[expected] += 1
        self.assertGreater(min(seen.values()), 50)

    def test_told_papers_that_are_changed(self):
        changed = 0
        for number, land in enumerate(LANDS):
            chance = random.Random(number)
            facts = some_facts(chance, land, 7, NAMES[:3])
            for section, paper in enumerate(barring(land, facts, "bob")):
                if paper is not None:
                    for other in self.changes(paper):
                        expected = shows(land, facts, "bob", section, other)
                        self.assertIs(stands(land, facts, "bob", section, other), expected)
                        changed += not expected
        self.assertGreater(changed, 500)

    def changes(self, paper):
        walk, end = paper
        for place, (number, way) in enumerate(walk):
            yield walk[:place] + walk[place + 1:], end
            yield walk[:place] + [(number, -way)] + walk[place + 1:], end
            yield walk[:place] + [(number + 1, way)] + walk[place + 1:], end
            yield walk[:place + 1] + walk[place:], end
            yield walk[:place], end
        yield walk[::-1], end
        yield walk, None
        yield walk, (0 if end is None else end + 1)


if __name__ == "__main__":
    unittest.main()
