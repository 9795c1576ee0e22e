"""Asks of a book: points 1 and 16, and kinhearth/asks.py of the interface."""

import itertools
import unittest

from kinhearth.asks import between, dealing, dealings, groups, open_of, settled, settlers
from kinhearth.hearth import Hearth
from tests.helper import (
    CROOKED, FIFTY, KARIERA, LANDS, RING, all_told, dealings_of, filled, great_book, great_lands, joined_to, kept_by,
    refused_with, small_books, soon,
)

PEOPLE = "eve/w bob/m ann/w dan/m"


class AgainstPlainCounts(unittest.TestCase):
    def setUp(self):
        self.books = small_books(LANDS) + [Hearth(KARIERA), filled(RING, "ann/w")]

    def test_the_books_are_of_many_kinds(self):
        counts = [len(hearth.kept()) for hearth in self.books]
        self.assertGreater(len(set(counts)), 4)

    def test_dealings(self):
        for hearth in self.books:
            self.assertEqual(dealings(hearth), len(dealings_of(hearth)))

    def test_open_of(self):
        for hearth in self.books:
            held = dealings_of(hearth)
            for name in hearth.people():
                self.assertEqual(open_of(hearth, name), sorted({dealt[name] for dealt in held}))

    def test_between(self):
        for hearth in self.books:
            held = dealings_of(hearth)
            for one, other in itertools.product(hearth.people(), repeat=2):
                pairs = sorted({(dealt[one], dealt[other]) for dealt in held})
                self.assertEqual(between(hearth, one, other), pairs)

    def test_dealing(self):
        for hearth in self.books:
            held = dealings_of(hearth)
            for name, section in itertools.product(hearth.people(), range(hearth.land.size)):
                told = dealing(hearth, name, section)
                if told is None:
                    self.assertNotIn(section, [dealt[name] for dealt in held])
                else:
                    self.assertEqual([one for one, other in told], hearth.people())
                    self.assertIn(dict(told), held)
                    self.assertEqual(dict(told)[name], section)

    def test_groups(self):
        for hearth in self.books:
            people, found = hearth.people(), []
            for name in people:
                group = [one for one in people if one in joined_to(hearth.kept(), name)]
                if group not in found:
                    found.append(group)
            self.assertEqual(groups(hearth), found)

    def test_settled(self):
        for hearth in self.books:
            held = dealings_of(hearth)
            sections = {name: {dealt[name] for dealt in held} for name in hearth.people()}
            expected = [(name, min(sections[name])) for name in hearth.people() if len(sections[name]) == 1]
            self.assertEqual(settled(hearth), expected)

    def test_settlers(self):
        for hearth in self.books:
            held, told = dealings_of(hearth), settlers(hearth)
            fixed = dict(settled(hearth))
            expected = [group[0] for group in groups(hearth) if group[0] not in fixed]
            self.assertEqual(told, expected)
            # Once their sections are said, one dealing is left, and no fewer people have such sections.
            counts = {}
            for dealt in held:
                key = tuple(dealt[name] for name in told)
                counts[key] = counts.get(key, 0) + 1
            self.assertEqual(set(counts.values()), {1})
            for fewer in itertools.combinations(hearth.people(), max(0, len(told) - 1)):
                if len(fewer) < len(told):
                    self.assertLess(len({tuple(dealt[name] for name in fewer) for dealt in held}), len(held))

    def test_asking_changes_nothing(self):
        for hearth in self.books[::3]:
            before = all_told(hearth)
            for name in hearth.people():
                dealing(hearth, name, 0)
                between(hearth, name, hearth.people()[0])
            settled(hearth)
            settlers(hearth)
            self.assertEqual(all_told(hearth), before)


class Plain(unittest.TestCase):
    def setUp(self):
        self.hearth = filled(KARIERA, PEOPLE, [("wed", "bob", "eve"), ("said", "dan", 3)])

    def test_told(self):
        self.assertEqual(open_of(self.hearth, "bob"), [0, 1, 2, 3])
        self.assertEqual(open_of(self.hearth, "dan"), [3])
        self.assertEqual(between(self.hearth, "bob", "eve"), [(0, 1), (1, 0), (2, 3), (3, 2)])
        self.assertEqual(between(self.hearth, "dan", "dan"), [(3, 3)])
        self.assertEqual(between(self.hearth, "dan", "eve"), [(3, 0), (3, 1), (3, 2), (3, 3)])
        self.assertEqual(dealings(self.hearth), 16)
        self.assertEqual(groups(self.hearth), [["eve", "bob"], ["ann"], ["dan"]])
        self.assertEqual(settled(self.hearth), [("dan", 3)])
        self.assertEqual(settlers(self.hearth), ["eve", "ann"])
        self.assertIsNone(dealing(self.hearth, "dan", 2))
        told = dealing(self.hearth, "bob", 2)
        self.assertEqual((told[0], told[1], told[3]), (("eve", 3), ("bob", 2), ("dan", 3)))

    def test_kinds(self):
        self.assertIsInstance(open_of(self.hearth, "bob"), list)
        for pair in between(self.hearth, "bob", "eve") + settled(self.hearth) + dealing(self.hearth, "ann", 0):
            self.assertIsInstance(pair, tuple)
        for group in groups(self.hearth):
            self.assertIsInstance(group, list)

    def test_groups_begin_with_the_first_ones(self):
        hearth = filled(RING, "a/w b/m c/w d/m e/w f/m g/w")
        for kind, one, other in (("father", "g", "f"), ("wed", "d", "a"), ("sibling", "f", "b")):
            hearth.tie(kind, one, other)
        self.assertEqual(groups(hearth), [["a", "d"], ["b", "f", "g"], ["c"], ["e"]])
        hearth.tie("mother", "c", "g")
        self.assertEqual(groups(hearth), [["a", "d"], ["b", "c", "f", "g"], ["e"]])
        self.assertEqual(settlers(hearth), ["a", "b", "e"])
        hearth.say("f", 0)
        self.assertEqual(settlers(hearth), ["a", "e"])
        self.assertEqual([name for name, section in settled(hearth)], ["b", "c", "f", "g"])

    def test_the_empty_book(self):
        for land in (KARIERA, RING, CROOKED):
            hearth = Hearth(land)
            self.assertEqual(dealings(hearth), 1)
            self.assertEqual((groups(hearth), settled(hearth), settlers(hearth)), ([], [], []))

    def test_no_person(self):
        for name in ("zed", "", "Bob", "bo"):
            for ask in (open_of, lambda book, one: between(book, one, "bob"), lambda book, one: dealing(book, one, 0)):
                self.assertEqual(refused_with(ask, self.hearth, name), "NoPerson")
            self.assertEqual(refused_with(between, self.hearth, "bob", name), "NoPerson")
            self.assertEqual(refused_with(between, self.hearth, name, name), "NoPerson")
        self.assertEqual(refused_with(open_of, Hearth(KARIERA), "bob"), "NoPerson")

    def test_one_who_was_undone(self):
        self.hearth.person("zed", "man")
        self.assertEqual(open_of(self.hearth, "zed"), [0, 1, 2, 3])
        self.hearth.undo()
        self.assertEqual(refused_with(open_of, self.hearth, "zed"), "NoPerson")

    def test_no_section(self):
        for section in (-1, -4, 4, 8, FIFTY, -FIFTY):
            self.assertEqual(refused_with(dealing, self.hearth, "bob", section), "NoSection")
            self.assertEqual(refused_with(dealing, self.hearth, "zed", section), "NoPerson")

    def test_told_lists_that_are_changed_change_nothing(self):
        before = all_told(self.hearth)
        for told in (
            open_of(self.hearth, "bob"), between(self.hearth, "bob", "eve"), dealing(self.hearth, "bob", 0),
            groups(self.hearth), groups(self.hearth)[0], settled(self.hearth), settlers(self.hearth),
        ):
            told.reverse()
            told.append(None)
            told.pop(0)
            told.clear()
            self.assertEqual(all_told(self.hearth), before)
        self.assertEqual(settled(self.hearth), [("dan", 3)])
        self.assertEqual(settlers(self.hearth), ["eve", "ann"])


class GreatBooks(unittest.TestCase):
    def test_told_soon(self):
        with soon(30):
            for land in great_lands() + [CROOKED]:
                hearth, dealt = great_book(land, 11)
                self.assertEqual((len(hearth.people()), len(hearth.kept())), (200, 400))
                many = 1
                for group in groups(hearth):
                    many *= len(open_of(hearth, group[0]))
                self.assertEqual(dealings(hearth), many)
                for name in hearth.people()[::20]:
                    self.assertIn(dealt[name], open_of(hearth, name))
                    told = dict(dealing(hearth, name, dealt[name]))
                    self.assertTrue(all(kept_by(land, told, fact) for fact in hearth.kept()))
                    self.assertIn((dealt[name], dealt["p0"]), between(hearth, name, "p0"))
                said = hearth.twin()
                for name in settlers(hearth):
                    said.say(name, dealt[name])
                self.assertEqual(dealings(said), 1)
                self.assertEqual(dict(settled(said)), dealt)

    def test_many_without_ties(self):
        with soon():
            hearth = filled(great_lands()[-1], " ".join(f"p{number}/m" for number in range(200)))
            self.assertEqual(dealings(hearth), 8 ** 200)
            self.assertEqual(len(settlers(hearth)), 200)
            self.assertEqual(dict(dealing(hearth, "p7", 5))["p7"], 5)


if __name__ == "__main__":
    unittest.main()
