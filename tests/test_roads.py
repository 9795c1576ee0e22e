"""Roads: points 9 and 17, and kinhearth/roads.py of the interface."""

import collections
import itertools
import random
import unittest

from kinhearth.hearth import Hearth
from kinhearth.roads import called, forebears, nearest, road
from tests.helper import (
    KARIERA, LANDS, RING, STILL_LAND, all_told, done, filled, great_book, great_lands, refused_with, small_books, soon,
)

LETTERS = "cfhkmsw"
STRANGERS = ["zed", "", "Ann", "an"]


def plain_leads(facts):
    """For each name and letter those to whom it leads, by the words of point 17."""
    leads = collections.defaultdict(set)
    for number, kind, one, other in facts:
        if kind == "mother":
            leads[one, "m"].add(other)
            leads[other, "c"].add(one)
        elif kind == "father":
            leads[one, "f"].add(other)
            leads[other, "k"].add(one)
        elif kind == "wed":
            leads[one, "w"].add(other)
            leads[other, "h"].add(one)
        elif kind == "sibling":
            leads[one, "s"].add(other)
            leads[other, "s"].add(one)
    return leads


def plainly_called(leads, name, word):
    found = {name}
    for letter in word:
        found = {goal for one in found for goal in leads[one, letter]}
    return found


def plain_roads(leads, name, many):
    """For each one the least word: of each length the least word there, the shortest length first."""
    words, newest = {name: ""}, {name: ""}
    for length in range(many):
        longer = {}
        for one, word in newest.items():
            for letter in LETTERS:
                for goal in leads[one, letter]:
                    longer[goal] = min(longer.get(goal, word + letter), word + letter)
        newest = longer
        words = {**newest, **words}
    return words


def plain_steps(leads, name, many):
    """The fewest steps up to each forebear, and none to oneself."""
    steps, newest = {name: 0}, {name}
    for length in range(1, many + 1):
        newest = {goal for one in newest for letter in "mf" for goal in leads[one, letter]}
        for one in newest:
            steps.setdefault(one, length)
    return steps


def kin_books():
    """Books with many ties, in a land in which no section stands against any of them."""
    books = []
    for seed in range(30):
        chance = random.Random(seed)
        names = [f"p{number}" for number in range(chance.choice([2, 4, 6, 8]))]
        chance.shuffle(names)
        hearth = filled(STILL_LAND, " ".join(f"{name}/{chance.choice('mw')}" for name in names))
        for step in range(chance.choice([3, 12, 40])):
            kind = chance.choice(["mother", "father", "wed", "sibling"])
            done(hearth, ("tie", kind, chance.choice(names), chance.choice(names)))
        if hearth.kept() and seed % 3 == 0:
            hearth.take(0)
        books.append(hearth)
    return books


class Called(unittest.TestCase):
    def setUp(self):
        self.hearth = filled(KARIERA, "kim/w ann/w bob/m cid/m dot/w eve/w", [
            ("mother", "cid", "ann"), ("mother", "kim", "ann"), ("father", "cid", "bob"), ("father", "kim", "bob"),
            ("wed", "bob", "ann"), ("wed", "cid", "dot"), ("wed", "cid", "eve"), ("sibling", "dot", "eve"),
            ("said", "ann", 2),
        ])

    def test_each_letter(self):
        expected = {
            ("cid", "m"): ["ann"], ("kim", "m"): ["ann"], ("cid", "f"): ["bob"], ("kim", "f"): ["bob"],
            ("ann", "c"): ["kim", "cid"], ("bob", "k"): ["kim", "cid"], ("bob", "w"): ["ann"], ("ann", "h"): ["bob"],
            ("cid", "w"): ["dot", "eve"], ("dot", "h"): ["cid"], ("eve", "h"): ["cid"], ("dot", "s"): ["eve"],
            ("eve", "s"): ["dot"],
        }
        for name, letter in itertools.product(self.hearth.people(), LETTERS):
            self.assertEqual(called(self.hearth, name, letter), expected.get((name, letter), []), (name, letter))

    def test_words_of_several_letters(self):
        self.assertEqual(called(self.hearth, "cid", "mc"), ["kim", "cid"])
        self.assertEqual(called(self.hearth, "dot", "hm"), ["ann"])
        self.assertEqual(called(self.hearth, "ann", "cw"), ["dot", "eve"])
        self.assertEqual(called(self.hearth, "ann", "cws"), ["dot", "eve"])
        self.assertEqual(called(self.hearth, "ann", "cm"), ["ann"])
        self.assertEqual(called(self.hearth, "ann", "mc"), [])

    def test_the_empty_word(self):
        for name in self.hearth.people():
            self.assertEqual(called(self.hearth, name, ""), [name])

    def test_bad_word_then_no_person(self):
        for word in ("x", "mx", "M", " m", "m ", "mother", "m\n", "a", "xm", "m,f"):
            self.assertEqual(refused_with(called, self.hearth, "cid", word), "BadWord")
            self.assertEqual(refused_with(called, self.hearth, "zed", word), "BadWord")
        for name, word in itertools.product(STRANGERS, ["", "m", "smw"]):
            self.assertEqual(refused_with(called, self.hearth, name, word), "NoPerson")

    def test_a_bad_letter_where_nobody_is_left(self):
        self.assertEqual(refused_with(called, self.hearth, "dot", "mmmx"), "BadWord")

    def test_long_words(self):
        with soon():
            self.assertEqual(called(self.hearth, "cid", "mc" * 100), ["kim", "cid"])
            self.assertEqual(called(self.hearth, "cid", "mc" * 99 + "mh"), ["bob"])
            self.assertEqual(called(self.hearth, "dot", "s" * 200), ["dot"])
            self.assertEqual(called(self.hearth, "dot", "s" * 199), ["eve"])
            self.assertEqual(called(self.hearth, "cid", "f" * 200), [])

    def test_against_plain_searches(self):
        for seed, hearth in enumerate(kin_books()):
            chance, leads = random.Random(seed), plain_leads(hearth.kept())
            for name in hearth.people():
                words = ["".join(word) for word in itertools.product(LETTERS, repeat=2)]
                words += ["".join(chance.choices(LETTERS, k=chance.randrange(3, 30))) for word in range(10)]
                for word in words:
                    expected = sorted(plainly_called(leads, name, word), key=hearth.people().index)
                    self.assertEqual(called(hearth, name, word), expected)

    def test_a_told_list_that_is_changed_changes_nothing(self):
        before = all_told(self.hearth)
        called(self.hearth, "ann", "c").clear()
        called(self.hearth, "ann", "").append("bob")
        self.assertEqual(called(self.hearth, "ann", "c"), ["kim", "cid"])
        self.assertEqual(called(self.hearth, "ann", ""), ["ann"])
        self.assertEqual(all_told(self.hearth), before)


class Roads(unittest.TestCase):
    def test_to_oneself(self):
        hearth = filled(KARIERA, "ann/w bob/m", [("wed", "bob", "ann")])
        self.assertEqual(road(hearth, "ann", "ann"), "")
        self.assertEqual(road(hearth, "bob", "bob"), "")

    def test_each_letter(self):
        for kind, there, back in (("mother", "m", "c"), ("wed", "w", "h"), ("sibling", "s", "s")):
            hearth = filled(KARIERA, "bob/m ann/w", [(kind, "bob", "ann")])
            self.assertEqual((road(hearth, "bob", "ann"), road(hearth, "ann", "bob")), (there, back))
        hearth = filled(KARIERA, "bob/m ann/w", [("father", "ann", "bob")])
        self.assertEqual((road(hearth, "ann", "bob"), road(hearth, "bob", "ann")), ("f", "k"))

    def test_none(self):
        hearth = filled(KARIERA, "ann/w bob/m cid/m dot/w", [("wed", "bob", "ann"), ("mother", "cid", "dot")])
        for one, other in itertools.product(["ann", "bob"], ["cid", "dot"]):
            self.assertIsNone(road(hearth, one, other))
            self.assertIsNone(road(hearth, other, one))

    def test_sayings_lead_nowhere(self):
        hearth = filled(KARIERA, "ann/w bob/m", [("said", "ann", 1), ("said", "bob", 1)])
        self.assertIsNone(road(hearth, "ann", "bob"))

    def test_the_shorter_one(self):
        # By alphabet "cc" comes ahead of "w", but "w" is shorter.
        hearth = filled(STILL_LAND, "ann/w bea/w cid/m dot/w", [
            ("mother", "bea", "ann"), ("mother", "cid", "bea"), ("sibling", "ann", "cid"), ("wed", "cid", "dot"),
        ])
        self.assertEqual(road(hearth, "ann", "cid"), "s")
        self.assertEqual(road(hearth, "ann", "dot"), "sw")

    def test_of_two_as_long_the_first_by_the_alphabet(self):
        hearth = filled(STILL_LAND, "ann/w cid/m dot/w", [("mother", "cid", "ann"), ("sibling", "cid", "ann")])
        self.assertEqual((road(hearth, "cid", "ann"), road(hearth, "ann", "cid")), ("m", "c"))
        hearth.tie("wed", "cid", "ann")
        self.assertEqual((road(hearth, "cid", "ann"), road(hearth, "ann", "cid")), ("m", "c"))
        hearth.take(0)
        self.assertEqual((road(hearth, "cid", "ann"), road(hearth, "ann", "cid")), ("s", "h"))

    def test_children_of_one_word_go_on_together(self):
        # The first child leads to the goal by "w", the second one by "c": the least word is the second one's.
        hearth = filled(STILL_LAND, "ann/w bob/m bea/w eve/w", [
            ("mother", "bob", "ann"), ("mother", "bea", "ann"), ("wed", "bob", "eve"), ("mother", "eve", "bea"),
        ])
        self.assertEqual(road(hearth, "ann", "eve"), "cc")

    def test_an_earlier_letter_counts_more(self):
        # "fw" ahead of "mc", though "c" comes ahead of "w".
        hearth = filled(STILL_LAND, "kid/m mum/w dad/m eve/w", [
            ("mother", "kid", "mum"), ("father", "kid", "dad"), ("mother", "eve", "mum"), ("wed", "dad", "eve"),
        ])
        self.assertEqual(road(hearth, "kid", "eve"), "fw")

    def test_no_person(self):
        hearth = filled(KARIERA, "ann/w bob/m")
        for name in STRANGERS:
            self.assertEqual(refused_with(road, hearth, name, "bob"), "NoPerson")
            self.assertEqual(refused_with(road, hearth, "bob", name), "NoPerson")
            self.assertEqual(refused_with(road, hearth, name, name), "NoPerson")
        self.assertEqual(refused_with(road, Hearth(RING), "ann", "ann"), "NoPerson")

    def test_against_plain_searches(self):
        for hearth in kin_books() + small_books(LANDS[::3]):
            leads = plain_leads(hearth.kept())
            for name in hearth.people():
                plain = plain_roads(leads, name, len(hearth.people()))
                for goal in hearth.people():
                    self.assertEqual(road(hearth, name, goal), plain.get(goal))

    def test_against_all_words(self):
        words = ["".join(word) for length in range(4) for word in itertools.product(LETTERS, repeat=length)]
        for hearth in kin_books()[:8]:
            leads = plain_leads(hearth.kept())
            for name in hearth.people():
                plain = {}
                for word in words:
                    for goal in plainly_called(leads, name, word):
                        plain.setdefault(goal, word)
                for goal in hearth.people():
                    told = road(hearth, name, goal)
                    self.assertEqual(told if told is None or len(told) < 4 else None, plain.get(goal))

    def test_great_books(self):
        with soon(30):
            names = [f"p{number}" for number in range(200)]
            hearth = filled(RING, " ".join(f"{name}/m" for name in names))
            for child, father in zip(names, names[1:]):
                hearth.tie("father", child, father)
            self.assertEqual(road(hearth, "p0", "p199"), "f" * 199)
            self.assertEqual(road(hearth, "p199", "p0"), "k" * 199)
            self.assertEqual(called(hearth, "p0", "f" * 199), ["p199"])
            hearth, dealt = great_book(great_lands()[2], 8)
            leads = plain_leads(hearth.kept())
            for name in hearth.people()[::40]:
                plain = plain_roads(leads, name, 12)
                for goal in hearth.people():
                    told = road(hearth, name, goal)
                    self.assertEqual(told if told is None or len(told) <= 12 else None, plain.get(goal))


class Forebears(unittest.TestCase):
    def setUp(self):
        # kit's mother is the daughter of his father's brother: gran is his forebear by three steps and by three.
        self.hearth = filled(STILL_LAND, "gran/w opa/m kit/m dad/m mum/w unc/m pat/w", [
            ("father", "kit", "dad"), ("mother", "kit", "mum"), ("father", "mum", "unc"), ("mother", "unc", "gran"),
            ("mother", "dad", "gran"), ("father", "dad", "opa"), ("sibling", "pat", "kit"), ("wed", "dad", "pat"),
        ])

    def test_fewest_steps_and_the_order(self):
        self.assertEqual(forebears(self.hearth, "kit"), [("dad", 1), ("mum", 1), ("gran", 2), ("opa", 2), ("unc", 2)])
        self.assertEqual(forebears(self.hearth, "mum"), [("unc", 1), ("gran", 2)])
        self.assertEqual(forebears(self.hearth, "gran"), [])
        self.assertEqual(forebears(self.hearth, "pat"), [])
        for pair in forebears(self.hearth, "kit"):
            self.assertIsInstance(pair, tuple)

    def test_nearest(self):
        self.assertEqual(nearest(self.hearth, "kit", "kit"), ["kit"])
        self.assertEqual(nearest(self.hearth, "kit", "dad"), ["dad"])
        self.assertEqual(nearest(self.hearth, "gran", "kit"), ["gran"])
        self.assertEqual(nearest(self.hearth, "dad", "unc"), ["gran"])
        self.assertEqual(nearest(self.hearth, "dad", "mum"), ["gran"])
        self.assertEqual(nearest(self.hearth, "kit", "unc"), ["unc"])
        self.assertEqual(nearest(self.hearth, "kit", "pat"), [])
        self.assertEqual(nearest(self.hearth, "gran", "opa"), [])

    def test_several_nearest_ones_in_the_order_of_coming(self):
        self.hearth.tie("father", "unc", "opa")
        self.assertEqual(nearest(self.hearth, "unc", "dad"), ["gran", "opa"])
        self.assertEqual(nearest(self.hearth, "dad", "mum"), ["gran", "opa"])
        # Here the father came into the book ahead of the mother, and the grandmother ahead of both.
        hearth = filled(STILL_LAND, "oma/w pa/m ma/w kit/m kat/w kid/m", [
            ("mother", "kit", "ma"), ("father", "kit", "pa"), ("father", "kat", "pa"), ("mother", "kat", "ma"),
            ("mother", "ma", "oma"), ("mother", "kid", "oma"),
        ])
        self.assertEqual(nearest(hearth, "kit", "kat"), ["pa", "ma"])
        self.assertEqual(nearest(hearth, "kat", "kit"), ["pa", "ma"])
        self.assertEqual(nearest(hearth, "kid", "kat"), ["oma"])

    def test_the_sum_of_both_counts(self):
        # To kit dan is as near as bea is, and comes first, but from kat it is a step more to him.
        hearth = filled(STILL_LAND, "dan/m bea/w kit/m kat/w", [
            ("father", "kit", "dan"), ("mother", "kit", "bea"), ("mother", "kat", "bea"), ("father", "bea", "dan"),
        ])
        self.assertEqual(nearest(hearth, "kit", "kat"), ["bea"])
        self.assertEqual(forebears(hearth, "kit"), [("dan", 1), ("bea", 1)])

    def test_no_person(self):
        for name in STRANGERS:
            self.assertEqual(refused_with(forebears, self.hearth, name), "NoPerson")
            self.assertEqual(refused_with(nearest, self.hearth, name, "kit"), "NoPerson")
            self.assertEqual(refused_with(nearest, self.hearth, "kit", name), "NoPerson")
            self.assertEqual(refused_with(nearest, self.hearth, name, name), "NoPerson")

    def test_against_plain_searches(self):
        for hearth in kin_books():
            people, leads = hearth.people(), plain_leads(hearth.kept())
            steps = {name: plain_steps(leads, name, len(people)) for name in people}
            for name in people:
                pairs = [(elder, steps[name][elder]) for elder in people if elder in steps[name] and elder != name]
                self.assertEqual(forebears(hearth, name), sorted(pairs, key=lambda pair: pair[1]))
            for one, other in itertools.product(people, repeat=2):
                sums = {name: steps[one][name] + steps[other][name] for name in people
                        if name in steps[one] and name in steps[other]}
                expected = [name for name in people if name in sums and sums[name] == min(sums.values())]
                self.assertEqual(nearest(hearth, one, other), expected)

    def test_behind_taking_out_and_undoing(self):
        self.hearth.take(1)
        self.assertEqual(forebears(self.hearth, "kit"), [("dad", 1), ("gran", 2), ("opa", 2)])
        self.hearth.undo()
        self.assertEqual(len(forebears(self.hearth, "kit")), 5)

    def test_told_lists_that_are_changed_change_nothing(self):
        before = all_told(self.hearth)
        forebears(self.hearth, "kit").clear()
        nearest(self.hearth, "kit", "dad").clear()
        self.assertEqual(nearest(self.hearth, "kit", "dad"), ["dad"])
        self.assertEqual(len(forebears(self.hearth, "kit")), 5)
        self.assertEqual(all_told(self.hearth), before)

    def test_great_books(self):
        with soon(30):
            for land in great_lands()[::3]:
                hearth, dealt = great_book(land, 21)
                leads = plain_leads(hearth.kept())
                for name in hearth.people()[::10]:
                    plain = plain_steps(leads, name, 60)
                    self.assertEqual(dict(forebears(hearth, name)), {one: many for one, many in plain.items() if many})
                    nearest(hearth, name, "p0")


if __name__ == "__main__":
    unittest.main()
