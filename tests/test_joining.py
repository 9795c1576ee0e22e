"""Joining: point 20, `joined` and `group_book`."""

import itertools
import random
import unittest

from kinhearth.asks import groups
from kinhearth.errors import Barred, OwnElder
from kinhearth.hearth import Hearth
from kinhearth.joining import group_book, joined
from kinhearth.land import Land, alike_lands
from tests.helper import (
    CROOKED, KARIERA, LANDS, RING, STILL_LAND, PlainBook, all_told, contents, done, filled, great_book, great_lands,
    joined_to, refusal, refused_with, shows, small_books, some_deed, soon,
)


def plainly_joined(one, other, same):
    """The contents of the new book by the words of point 20, by a plain book, or the name of the refusal's class."""
    if (one.land.mother, one.land.father, one.land.wife) != (other.land.mother, other.land.father, other.land.wife):
        return "UnlikeLands"
    for place, (here, there) in enumerate(same):
        if here not in one.people() or there not in other.people():
            return "NoPerson"
        if here in [pair[0] for pair in same[:place]] or there in [pair[1] for pair in same[:place]]:
            return "Twice"
        if one.side_of(here) != other.side_of(there):
            return "WrongSide"
    names = {there: here for here, there in same}
    if any(name in one.people() for name in other.people() if name not in names):
        return "Taken"
    plain = PlainBook(one.land)
    for hearth in (one, other):
        for name in hearth.people():
            if hearth is one or name not in names:
                plain.done(("person", name, hearth.side_of(name)))
    for place, hearth in enumerate((one, other)):
        for number, kind, first, second in hearth.kept():
            if place == 1:
                first = names.get(first, first)
                second = second if kind == "said" else names.get(second, second)
            told = [fact[1:] for fact in plain.state()[1]]
            if (kind, first, second) in told or (kind == "sibling" and (kind, second, first) in told):
                continue
            answer = plain.done(("say", first, second) if kind == "said" else ("tie", kind, first, second))
            if isinstance(answer, str):
                return answer
    return plain.contents()


def contents_or_refusal(one, other, same):
    try:
        return contents(joined(one, other, same))
    except ValueError as raised:
        return type(raised).__name__


class Joined(unittest.TestCase):
    def setUp(self):
        self.one = filled(KARIERA, "ann/w bob/m cid/m", [
            ("mother", "cid", "ann"), ("said", "ann", 2), ("wed", "bob", "ann"),
        ])
        self.other = filled(KARIERA, "eve/w dan/m fay/w", [
            ("wed", "dan", "eve"), ("mother", "fay", "eve"), ("said", "eve", 2),
        ])
        self.before = (all_told(self.one), all_told(self.other))

    def tearDown(self):
        self.assertEqual((all_told(self.one), all_told(self.other)), self.before)

    def test_no_pairs(self):
        book = joined(self.one, self.other, [])
        self.assertIsInstance(book, Hearth)
        self.assertTrue(alike_lands(book.land, KARIERA))
        self.assertEqual(book.people(), ["ann", "bob", "cid", "eve", "dan", "fay"])
        self.assertEqual(book.kept(), [
            (0, "mother", "cid", "ann"), (1, "said", "ann", 2), (2, "wed", "bob", "ann"),
            (3, "wed", "dan", "eve"), (4, "mother", "fay", "eve"), (5, "said", "eve", 2),
        ])
        self.assertEqual(book.say("fay", 0), 6)

    def test_several_pairs(self):
        book = joined(self.one, self.other, [("bob", "dan"), ("ann", "eve")])
        self.assertEqual(book.people(), ["ann", "bob", "cid", "fay"])
        self.assertEqual(book.kept(), [
            (0, "mother", "cid", "ann"), (1, "said", "ann", 2), (2, "wed", "bob", "ann"), (3, "mother", "fay", "ann"),
        ])
        self.assertEqual(book.tie("sibling", "cid", "fay"), 4)

    def test_one_pair(self):
        book = joined(self.one, self.other, [("ann", "eve")])
        self.assertEqual(book.people(), ["ann", "bob", "cid", "dan", "fay"])
        self.assertEqual(book.kept()[3:], [(3, "wed", "dan", "ann"), (4, "mother", "fay", "ann")])

    def test_all_in_pairs(self):
        other = filled(KARIERA, "gus/m hal/m ida/w", [("sibling", "gus", "hal"), ("mother", "hal", "ida")])
        one = filled(KARIERA, "ann/w bob/m cid/m", [("sibling", "cid", "bob"), ("said", "ann", 2)])
        book = joined(one, other, [("ann", "ida"), ("bob", "gus"), ("cid", "hal")])
        self.assertEqual(book.people(), ["ann", "bob", "cid"])
        self.assertEqual(book.kept(), [
            (0, "sibling", "cid", "bob"), (1, "said", "ann", 2), (2, "mother", "cid", "ann"),
        ])

    def test_siblings_in_either_order_are_kept_once(self):
        one = filled(RING, "ann/w bob/m", [("sibling", "ann", "bob")])
        for facts in ([("sibling", "x", "y")], [("sibling", "y", "x")]):
            book = joined(one, filled(RING, "x/m y/w", facts), [("bob", "x"), ("ann", "y")])
            self.assertEqual(book.kept(), [(0, "sibling", "ann", "bob")])

    def test_names_that_are_exchanged(self):
        # In the second book the names stand for one another.
        one = filled(RING, "ann/w eve/w", [("mother", "eve", "ann")])
        other = filled(RING, "eve/w ann/w kit/m", [("mother", "ann", "eve"), ("mother", "kit", "ann")])
        book = joined(one, other, [("ann", "eve"), ("eve", "ann")])
        self.assertEqual(book.people(), ["ann", "eve", "kit"])
        self.assertEqual(book.kept(), [(0, "mother", "eve", "ann"), (1, "mother", "kit", "eve")])

    def test_a_name_of_the_first_book_in_the_second_one_in_a_pair(self):
        # The second book's ann is the first one's eve: so her name is free for nobody else.
        one = filled(RING, "eve/w")
        other = filled(RING, "ann/w bob/m", [("mother", "bob", "ann")])
        book = joined(one, other, [("eve", "ann")])
        self.assertEqual((book.people(), book.kept()), (["eve", "bob"], [(0, "mother", "bob", "eve")]))
        book.person("ann", "woman")

    def test_with_itself(self):
        hearth = filled(KARIERA, "ann/w bob/m cid/m", [("mother", "cid", "ann"), ("said", "bob", 1)])
        hearth.take(0)
        hearth.tie("wed", "bob", "ann")
        before = all_told(hearth)
        book = joined(hearth, hearth, [(name, name) for name in hearth.people()])
        self.assertEqual(book.people(), hearth.people())
        self.assertEqual(book.kept(), [(0, "said", "bob", 1), (1, "wed", "bob", "ann")])
        self.assertEqual(refused_with(joined, hearth, hearth, []), "Taken")
        self.assertEqual(refused_with(joined, hearth, hearth, [("ann", "ann")]), "Taken")
        self.assertEqual(all_told(hearth), before)

    def test_empty_books(self):
        book = joined(Hearth(RING), Hearth(RING), [])
        self.assertEqual(all_told(book), all_told(Hearth(RING)))
        self.assertEqual(contents(joined(self.one, Hearth(KARIERA), [])), contents(self.one))
        self.assertEqual(contents(joined(Hearth(KARIERA), self.one, [])), contents(self.one))

    def test_numbers_from_nought_without_holes(self):
        one, other = self.one.twin(), self.other.twin()
        one.take(1)
        other.take(0)
        other.take(1)
        book = joined(one, other, [])
        self.assertEqual(book.kept(), [
            (0, "mother", "cid", "ann"), (1, "wed", "bob", "ann"), (2, "said", "eve", 2),
        ])
        self.assertEqual(book.say("ann", 2), 3)

    def test_nothing_can_be_undone(self):
        book = joined(self.one, self.other, [("ann", "eve")])
        self.assertEqual((book.undoable(), book.redoable()), (0, 0))
        self.assertEqual(refused_with(book.undo), "NothingLeft")
        self.assertEqual(refused_with(book.redo), "NothingLeft")

    def test_pairs_that_are_changed_behind_it(self):
        same = [("ann", "eve")]
        book = joined(self.one, self.other, same)
        self.assertEqual(same, [("ann", "eve")])
        before = all_told(book)
        same.append(("bob", "dan"))
        same[0] = ("cid", "dan")
        self.assertEqual(all_told(book), before)
        self.assertEqual(book.people(), ["ann", "bob", "cid", "dan", "fay"])

    def test_it_goes_its_own_way(self):
        book = joined(self.one, self.other, [("ann", "eve")])
        book.person("gus", "man")
        book.take(0)
        book.undo()
        told = all_told(book)
        one, other = self.one.twin(), self.other.twin()
        again = joined(one, other, [("ann", "eve")])
        before = all_told(again)
        one.take(1)
        other.person("gus", "man")
        one.undo()
        self.assertEqual(all_told(again), before)
        self.assertEqual(all_told(book), told)


class Refusals(unittest.TestCase):
    def setUp(self):
        self.one = filled(KARIERA, "ann/w bob/m cid/m", [("mother", "cid", "ann")])
        self.other = filled(KARIERA, "eve/w bob/m dan/m", [("wed", "bob", "eve")])
        self.before = (all_told(self.one), all_told(self.other))

    def refused(self, name, same, one=None, other=None):
        before = list(same)
        self.assertEqual(refused_with(joined, one or self.one, other or self.other, same), name)
        self.assertEqual(same, before)
        self.assertEqual((all_told(self.one), all_told(self.other)), self.before)

    def test_unlike_lands(self):
        lands = [
            Land((2, 3, 0, 1), (3, 2, 1, 0), (1, 0, 3, 2)), Land((3, 2, 1, 0), (2, 3, 0, 1), (1, 0, 3, 2)),
            Land((2, 3, 0, 1), (2, 3, 0, 1), (0, 1, 2, 3)), Land((0, 1, 2, 3), (1, 0, 3, 2), (1, 0, 3, 2)),
        ]
        for one, other in itertools.product(lands, repeat=2):
            if one is other:
                self.assertEqual(joined(Hearth(one), Hearth(other), []).people(), [])
            else:
                self.refused("UnlikeLands", [], Hearth(one), Hearth(other))
        self.assertEqual(joined(Hearth(lands[0]), Hearth(KARIERA), []).people(), [])

    def test_unlike_lands_ahead_of_all_else(self):
        other = filled(RING, "ann/w eve/w", [("mother", "eve", "ann")])
        for same in ([], [("zed", "eve")], [("ann", "eve"), ("ann", "eve")], [("bob", "eve")]):
            self.refused("UnlikeLands", same, other=other)

    def test_no_person(self):
        for here, there in (("zed", "eve"), ("ann", "zed"), ("zed", "zed"), ("eve", "ann"), ("", "eve"), ("ann", "")):
            self.refused("NoPerson", [(here, there)])
            self.refused("NoPerson", [("bob", "bob"), (here, there)])

    def test_no_person_ahead_of_twice_and_wrong_side(self):
        self.refused("NoPerson", [("bob", "bob"), ("bob", "zed")])
        self.refused("NoPerson", [("bob", "bob"), ("zed", "bob")])

    def test_twice(self):
        self.refused("Twice", [("bob", "bob"), ("bob", "bob")])
        self.refused("Twice", [("bob", "bob"), ("bob", "dan")])
        self.refused("Twice", [("bob", "bob"), ("cid", "bob")])
        self.refused("Twice", [("ann", "eve"), ("bob", "dan"), ("cid", "dan")])

    def test_a_name_in_an_earlier_pair_on_the_other_side(self):
        # bob stands on either side once: that is not twice.
        book = joined(self.one, self.other, [("bob", "dan"), ("cid", "bob")])
        self.assertEqual(book.people(), ["ann", "bob", "cid", "eve"])
        self.assertEqual(book.kept(), [(0, "mother", "cid", "ann"), (1, "wed", "cid", "eve")])

    def test_twice_ahead_of_wrong_side(self):
        self.refused("Twice", [("bob", "bob"), ("bob", "eve")])
        self.refused("Twice", [("bob", "bob"), ("ann", "bob")])

    def test_wrong_side(self):
        self.refused("WrongSide", [("ann", "bob")])
        self.refused("WrongSide", [("bob", "eve")])
        self.refused("WrongSide", [("bob", "bob"), ("cid", "eve")])

    def test_pair_by_pair(self):
        self.refused("WrongSide", [("ann", "bob"), ("zed", "eve")])
        self.refused("WrongSide", [("bob", "eve"), ("bob", "eve")])
        self.refused("Twice", [("bob", "bob"), ("bob", "dan"), ("zed", "eve")])
        self.refused("NoPerson", [("bob", "bob"), ("zed", "eve"), ("bob", "bob")])

    def test_taken(self):
        self.refused("Taken", [])
        self.refused("Taken", [("ann", "eve")])
        self.refused("Taken", [("bob", "dan")])
        self.refused("Taken", [("cid", "dan"), ("ann", "eve")])

    def test_pairs_ahead_of_taken(self):
        self.refused("NoPerson", [("zed", "eve")])
        self.refused("WrongSide", [("ann", "dan")])
        self.refused("Twice", [("ann", "eve"), ("ann", "eve")])

    def test_taken_ahead_of_what_a_deed_refuses(self):
        # eve would be cid's second mother, but bob's name is taken.
        other = filled(KARIERA, "eve/w kit/m bob/m", [("mother", "kit", "eve")])
        self.refused("Taken", [("cid", "kit")], other=other)
        self.refused("Twice", [("cid", "kit"), ("bob", "bob")], other=other)

    def test_a_second_mother(self):
        other = filled(KARIERA, "eve/w kit/m", [("mother", "kit", "eve")])
        self.refused("Twice", [("cid", "kit")], other=other)
        self.assertEqual(len(joined(self.one, other, [("cid", "kit"), ("ann", "eve")]).kept()), 1)

    def test_own_elder(self):
        one = filled(STILL_LAND, "ann/w bea/w", [("mother", "bea", "ann")])
        other = filled(STILL_LAND, "xia/w yva/w zoe/w", [("mother", "zoe", "yva"), ("mother", "yva", "xia")])
        raised = refusal(joined, one, other, [("bea", "xia"), ("ann", "zoe")])
        self.assertIs(type(raised), OwnElder)
        self.assertEqual(raised.line, ["bea", "ann", "yva"])
        other = filled(STILL_LAND, "x/w y/w", [("mother", "y", "x")])
        raised = refusal(joined, one, other, [("ann", "y"), ("bea", "x")])
        self.assertEqual(raised.line, ["bea", "ann"])

    def test_barred(self):
        one = filled(KARIERA, "ann/w cid/m", [("mother", "cid", "ann"), ("said", "ann", 0)])
        one.take(1)
        one.say("cid", 2)
        other = filled(KARIERA, "zoe/w xan/m", [("wed", "xan", "zoe")])
        other.take(0)
        other.say("xan", 1)
        other.say("zoe", 0)
        before = (all_told(one), all_told(other))
        raised = refusal(joined, one, other, [("ann", "zoe"), ("cid", "xan")])
        self.assertIs(type(raised), Barred)
        self.assertEqual((raised.whom, len(raised.walks)), ("cid", 4))
        facts = [(0, "mother", "cid", "ann"), (1, "said", "cid", 2), (2, "said", "cid", 1)]
        for section, paper in enumerate(raised.walks):
            self.assertTrue(shows(KARIERA, facts, "cid", section, paper))
        self.assertEqual((all_told(one), all_told(other)), before)

    def test_barred_by_a_tie_of_the_second_book(self):
        one = filled(KARIERA, "ann/w cid/m", [("mother", "cid", "ann")])
        other = filled(KARIERA, "zoe/w xan/m", [("sibling", "zoe", "xan")])
        raised = refusal(joined, one, other, [("ann", "zoe"), ("cid", "xan")])
        self.assertEqual((type(raised), raised.whom), (Barred, "ann"))
        facts = [(0, "mother", "cid", "ann"), (1, "sibling", "ann", "cid")]
        for section, paper in enumerate(raised.walks):
            self.assertTrue(shows(KARIERA, facts, "ann", section, paper))


class AgainstPlainBooks(unittest.TestCase):
    def test_by_chance(self):
        seen = {}
        for seed in range(400):
            chance = random.Random(seed)
            lands = [chance.choice([RING, STILL_LAND, LANDS[2]])] * 2
            if chance.random() < 0.1:
                lands[1] = CROOKED
            one, other = filled(lands[0], "ann/w bob/m cid/w"), filled(lands[1], "dan/m eve/w ann/w")
            for hearth, step in itertools.product((one, other), range(7)):
                done(hearth, some_deed(chance, hearth.land, hearth.people() or ["ann"], range(4)))
            same = self.pairs_by_chance(chance, one, other)
            before = (all_told(one), all_told(other), list(same))
            told = contents_or_refusal(one, other, same)
            self.assertEqual(told, plainly_joined(one, other, same), (seed, same))
            self.assertEqual((all_told(one), all_told(other), same), before)
            seen[told if isinstance(told, str) else "kept"] = True
        self.assertLessEqual({
            "UnlikeLands", "NoPerson", "Twice", "WrongSide", "Taken", "OwnElder", "Barred", "kept",
        }, set(seen))

    def pairs_by_chance(self, chance, one, other):
        here, there = one.people() + ["zed"] * (chance.random() < 0.1), other.people()
        same = [(chance.choice(here), chance.choice(there)) for pair in range(chance.randrange(4)) if here and there]
        if chance.random() < 0.6:
            # Pairs of one side each, and nobody twice: these are let by.
            women = [pair for pair in (("ann", "ann"), ("cid", "eve")) if pair[0] in here and pair[1] in there]
            same = women + [("bob", "dan")] * ("bob" in here and "dan" in there)
            chance.shuffle(same)
        return same


class GroupBooks(unittest.TestCase):
    def setUp(self):
        self.hearth = filled(KARIERA, "eve/w bob/m ann/w dan/m fay/w gus/m", [
            ("said", "dan", 3), ("wed", "gus", "eve"), ("said", "ann", 2), ("father", "fay", "gus"),
            ("sibling", "ann", "bob"), ("said", "eve", 0), ("mother", "fay", "eve"),
        ])
        self.hearth.take(3)
        self.before = all_told(self.hearth)

    def tearDown(self):
        self.assertEqual(all_told(self.hearth), self.before)

    def test_the_group_alone(self):
        for name in ("eve", "fay", "gus"):
            book = group_book(self.hearth, name)
            self.assertIsInstance(book, Hearth)
            self.assertEqual(book.people(), ["eve", "fay", "gus"])
            self.assertEqual([book.side_of(one) for one in book.people()], ["woman", "woman", "man"])
            self.assertEqual(book.kept(), [
                (0, "wed", "gus", "eve"), (1, "said", "eve", 0), (2, "mother", "fay", "eve"),
            ])
            self.assertTrue(alike_lands(book.land, KARIERA))
            self.assertEqual((book.undoable(), book.redoable()), (0, 0))
            self.assertEqual(book.tie("father", "fay", "gus"), 3)

    def test_other_groups(self):
        book = group_book(self.hearth, "bob")
        self.assertEqual(book.people(), ["bob", "ann"])
        self.assertEqual(book.kept(), [(0, "said", "ann", 2), (1, "sibling", "ann", "bob")])
        book = group_book(self.hearth, "dan")
        self.assertEqual((book.people(), book.kept()), (["dan"], [(0, "said", "dan", 3)]))

    def test_no_person(self):
        for name in ("zed", "", "Bob"):
            self.assertEqual(refused_with(group_book, self.hearth, name), "NoPerson")
        self.assertEqual(refused_with(group_book, Hearth(RING), "bob"), "NoPerson")

    def test_it_goes_its_own_way(self):
        book = group_book(self.hearth, "eve")
        book.take(0)
        book.person("bob", "woman")
        book.undo()
        told = all_told(book)
        hearth = self.hearth.twin()
        again = group_book(hearth, "eve")
        before = all_told(again)
        hearth.take(1)
        hearth.person("kit", "man")
        hearth.undo()
        self.assertEqual((all_told(again), all_told(book)), (before, told))

    def test_against_a_plain_choice(self):
        for hearth in small_books(LANDS[::2]):
            for name in hearth.people():
                group = joined_to(hearth.kept(), name)
                book = group_book(hearth, name)
                self.assertEqual(book.people(), [one for one in hearth.people() if one in group])
                self.assertEqual(
                    [fact[1:] for fact in book.kept()], [fact[1:] for fact in hearth.kept() if fact[2] in group])
                self.assertEqual([fact[0] for fact in book.kept()], list(range(len(book.kept()))))


class GreatBooks(unittest.TestCase):
    def test_told_soon(self):
        with soon(30):
            for land in great_lands()[::3]:
                hearth, dealt = great_book(land, 9)
                parts = [group_book(hearth, group[0]) for group in groups(hearth)]
                self.assertEqual(sum(len(part.kept()) for part in parts), 400)
                book = Hearth(land)
                for part in parts:
                    book = joined(book, part, [])
                self.assertEqual(sorted(book.people()), sorted(hearth.people()))
                self.assertEqual(sorted(fact[1:3] for fact in book.kept()), sorted(fact[1:3] for fact in hearth.kept()))
                again = joined(hearth, book, [(name, name) for name in book.people()])
                self.assertEqual((again.people(), again.kept()), (hearth.people(), hearth.kept()))


if __name__ == "__main__":
    unittest.main()
