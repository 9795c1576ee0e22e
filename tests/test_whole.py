"""The whole program: points 1 to 4, each refusal once, books that go their own ways, told lists, great books."""

import copy
import importlib
import inspect
import random
import unittest

from kinhearth import asks, errors, joining, land, notes, papers, roads, suit, terms, turns
from kinhearth.desk import Desk
from kinhearth.hearth import Hearth
from tests.helper import (
    CROOKED, KARIERA, RING, STILL_LAND, all_told, contents, done, filled, great_book, great_lands, refusal, shows,
    some_deed, soon,
)

FACTS = [("mother", "cid", "ann"), ("wed", "bob", "ann"), ("said", "bob", 0)]


def some_book():
    return filled(KARIERA, "ann/w bob/m cid/m", FACTS)


INTERFACE = {
    "turns": "is_turn(row) still(size) behind(first,then) back(turn) fixed(turn) rounds(turn) order_of(turn)"
             " times(turn,many) number_of(turn) numbered(size,number)",
    "land": "Land(mother,father,wife) Land.step(self,letter) land_of(mother,wife) alike_lands(one,other)"
            " renamed(land,turn) woman_line(land,section,many) man_line(land,section,many) cousins(land)",
    "terms": "turn_of(land,word) way_back(word) alike(land,one,other) least_words(land,most) shortest(land,word,most)",
    "joins": "Joins(size) Joins.add(self) Joins.tie(self,one,other,turn) Joins.say(self,one,section)"
             " Joins.open_at(self,one) Joins.left(self,one,other,turn) Joins.together(self,one,other)"
             " Joins.pairs(self,one,other) Joins.dealt(self) Joins.dealt_with(self,one,other,turn)",
    "hearth": "Hearth(land) Hearth.person(self,name,side) Hearth.tie(self,kind,one,other)"
              " Hearth.say(self,name,section) Hearth.take(self,number) Hearth.undo(self) Hearth.redo(self)"
              " Hearth.undoable(self) Hearth.redoable(self) Hearth.people(self) Hearth.side_of(self,name)"
              " Hearth.kept(self) Hearth.has(self,kind,one,other) Hearth.twin(self)",
    "papers": "barring(land,kept,person) stands(land,kept,person,section,paper)",
    "asks": "open_of(hearth,name) between(hearth,one,other) dealings(hearth) dealing(hearth,name,section)"
            " groups(hearth) settled(hearth) settlers(hearth)",
    "suit": "may(hearth,kind,one,other) left_to(hearth,kind,one,other) left_by(hearth,kind,one,other)"
            " suits(hearth,name)",
    "roads": "called(hearth,name,word) road(hearth,name,goal) forebears(hearth,name) nearest(hearth,one,other)",
    "joining": "joined(one,other,same) group_book(hearth,name)",
    "notes": "shown_land(land) shown(hearth) read_land(text) read(text)",
    "desk": "Desk() Desk.run(self,row) Desk.book(self,name) Desk.books_held(self) Desk.log(self)",
}


class Interface(unittest.TestCase):
    def test_names_and_arguments(self):
        for module, told in INTERFACE.items():
            for entry in told.split(" "):
                name, words = entry.rstrip(")").split("(")
                thing = importlib.import_module(f"kinhearth.{module}")
                for part in name.split("."):
                    thing = getattr(thing, part)
                self.assertEqual(",".join(inspect.signature(thing).parameters), words, entry)


class Refusals(unittest.TestCase):
    """Each of the eighteen refusals met once."""

    def met(self, name, word, deed, *words):
        raised = refusal(deed, *words)
        self.assertIs(type(raised), getattr(errors, name))
        self.assertEqual(raised.word, word)
        self.assertIsInstance(raised, errors.KinError)
        self.assertIsInstance(raised, ValueError)
        return raised

    def test_of_turnings_and_lands(self):
        self.met("BadTurn", "no turning", turns.back, (0, 2))
        self.met("BadLand", "no land", land.land_of, (0,), (0,))
        raised = self.met("Unequal", "unequal parents", land.Land, (0, 1, 2), (0, 2, 1), (0, 1, 2))
        self.assertEqual(raised.section, 1)

    def test_of_words(self):
        self.met("BadWord", "no word", terms.turn_of, KARIERA, "mx")
        self.met("TooMany", "too many", terms.least_words, KARIERA, 3)

    def test_of_books(self):
        book = some_book()
        self.met("BadName", "no name", book.person, "Eve", "woman")
        self.met("Taken", "name taken", book.person, "bob", "man")
        self.met("NoPerson", "no person", book.side_of, "eve")
        self.met("NoSection", "no section", book.say, "ann", 4)
        self.met("WrongSide", "wrong side", book.tie, "mother", "ann", "bob")
        self.met("Twice", "told twice", book.tie, "wed", "bob", "ann")
        self.met("NoFact", "no fact", book.take, 3)
        self.met("NothingLeft", "nothing left", book.redo)
        raised = self.met("OwnElder", "own elder", book.tie, "mother", "ann", "ann")
        self.assertEqual(raised.line, ["ann"])
        raised = self.met("Barred", "barred", book.tie, "sibling", "cid", "bob")
        self.assertEqual((raised.whom, len(raised.walks)), ("cid", 4))
        for section, paper in enumerate(raised.walks):
            self.assertTrue(shows(KARIERA, book.kept() + [(3, "sibling", "cid", "bob")], "cid", section, paper))

    def test_of_two_books_texts_and_desks(self):
        self.met("UnlikeLands", "unlike lands", joining.joined, Hearth(RING), Hearth(KARIERA), [])
        self.met("BadText", "no text", notes.read, "")
        self.met("NoBook", "no book", Desk().book, "b")

    def test_answered_by_a_desk(self):
        desk = Desk()
        for row in ("open b 2301 1032", "woman b ann", "man b bob", "man b cid", "mother b cid ann", "wed b bob ann"):
            desk.run(row)
        desk.run("open c 01 01")
        for row, word in (
            ("open d 11 01", "no land"), ("man b Eve", "no name"), ("man b bob", "name taken"),
            ("who b eve", "no person"), ("said b ann 4", "no section"), ("wed b ann bob", "wrong side"),
            ("wed b bob ann", "told twice"),
            ("mother b ann ann", "own elder"), ("sibling b cid bob", "barred"), ("take b 2", "no fact"),
            ("redo b", "nothing left"), ("join d b c none", "unlike lands"), ("count", "no text"),
            ("count d", "no book"),
        ):
            self.assertEqual(desk.run(row), f"refused {word}")


class OwnWays(unittest.TestCase):
    def books_of(self, hearth):
        """All books that have to do with a book: each goes its own way."""
        people = hearth.people()
        books = [hearth, hearth.twin(), notes.read(notes.shown(hearth))]
        books.append(joining.joined(hearth, hearth, [(name, name) for name in people]))
        books.append(joining.joined(hearth, Hearth(hearth.land), []))
        return books + [joining.group_book(hearth, name) for name in people]

    def test_deeds_undoings_and_redoings(self):
        for seed in range(20):
            chance = random.Random(seed)
            hearth = filled(chance.choice([KARIERA, RING, CROOKED, STILL_LAND]), "ann/w bob/m cid/m")
            for step in range(10):
                done(hearth, some_deed(chance, hearth.land, ["ann", "bob", "cid"], range(6)))
            books = self.books_of(hearth)
            for step in range(60):
                book = chance.choice(books)
                before = [all_told(other) for other in books if other is not book]
                if chance.random() < 0.1:
                    done(book, ("person", f"p{step}", "man"))
                done(book, some_deed(chance, book.land, book.people() or ["ann"], range(12)))
                self.assertEqual([all_told(other) for other in books if other is not book], before)

    def test_a_desks_joined_book(self):
        desk = Desk()
        for row in ("open b 012 120", "man b bob", "said b bob 1", "join c b b bob=bob", "man c eve", "take c 0"):
            self.assertFalse(desk.run(row).startswith("refused"))
        self.assertEqual(desk.run("who b bob"), "1")
        self.assertEqual(desk.run("who b eve"), "refused no person")
        self.assertEqual(desk.run("undo b"), "ok")
        self.assertEqual(desk.run("undo c"), "ok")
        self.assertEqual((desk.run("who b bob"), desk.run("who c bob")), ("012", "1"))

    def test_the_same_book_twice_is_told_alike(self):
        one, other = some_book(), some_book()
        self.assertEqual(all_told(one), all_told(other))
        one.take(0)
        self.assertNotEqual(all_told(one), all_told(other))


def all_asked(hearth):
    """All that a book of some people is asked for over the whole program."""
    told = [hearth.people(), hearth.kept(), asks.groups(hearth), asks.settled(hearth), asks.settlers(hearth)]
    for name in hearth.people():
        told += [asks.open_of(hearth, name), suit.suits(hearth, name), roads.forebears(hearth, name)]
        told += [roads.called(hearth, name, word) for word in ("", "m", "mc", "k")]
        told += [asks.dealing(hearth, name, section) for section in range(hearth.land.size)]
        told.append(papers.barring(hearth.land, hearth.kept(), name))
        for other in hearth.people():
            told += [asks.between(hearth, name, other), roads.nearest(hearth, name, other)]
            told.append(suit.left_to(hearth, "wed", name, other))
    return told


class ToldLists(unittest.TestCase):
    def test_every_told_list_changed_changes_nothing(self):
        for hearth in (some_book(), filled(RING, "ann/w bob/m"), Hearth(CROOKED)):
            before, state = copy.deepcopy(all_asked(hearth)), all_told(hearth)
            for told in all_asked(hearth):
                self.spoil(told)
            self.assertEqual(all_asked(hearth), before)
            self.assertEqual(all_told(hearth), state)

    def spoil(self, told):
        if isinstance(told, tuple):
            for part in told:
                self.spoil(part)
        if isinstance(told, list):
            for part in told:
                self.spoil(part)
            told.append("spoilt")
            told.reverse()
            told.pop()
            told.clear()

    def test_told_refusals_changed_change_nothing(self):
        book = some_book()
        before = all_told(book)
        for deed in (("sibling", "cid", "bob"), ("mother", "ann", "ann")):
            raised = refusal(book.tie, *deed)
            self.spoil(getattr(raised, "walks", []))
            self.spoil(getattr(raised, "line", []))
            again = refusal(book.tie, *deed)
            self.assertNotEqual((getattr(again, "walks", None), getattr(again, "line", None)), ([], []))
            self.assertTrue(getattr(again, "walks", None) or getattr(again, "line", None))
        self.assertEqual(all_told(book), before)


class Great(unittest.TestCase):
    def test_everything_soon(self):
        with soon(60):
            for size in (3, 8):
                ground = great_lands()[size - 2]
                hearth, dealt = great_book(ground, 31)
                text = notes.shown(hearth)
                book = notes.read(text)
                self.assertEqual(contents(book), contents(hearth))
                for name in hearth.people()[::25]:
                    self.assertEqual(all_of(book, name), all_of(hearth, name))
                twice = joining.joined(hearth, book, [(name, name) for name in hearth.people()])
                self.assertEqual(notes.shown(twice), text)

    def test_desks_with_hundreds_of_rows(self):
        with soon(60):
            desk, chance = Desk(), random.Random(3)
            for number in range(20):
                self.assertEqual(desk.run(f"open b{number} 1032 3210"), "ok")
                for name in range(10):
                    self.assertEqual(desk.run(f"{chance.choice(['man', 'woman'])} b{number} n{number}p{name}"), "ok")
                for row in range(20):
                    kind, one, other = chance.choice(["mother", "father", "wed", "sibling"]), row % 10, row % 7
                    desk.run(f"{kind} b{number} n{number}p{one} n{number}p{other}")
            self.assertEqual(desk.run("join all0 b0 b1 none"), "ok")
            for number in range(2, 20):
                self.assertEqual(desk.run(f"join all{number - 1} all{number - 2} b{number} none"), "ok")
            self.assertEqual(len(desk.book("all18").people()), 200)
            many = 1
            for number in range(20):
                many *= int(desk.run(f"count b{number}"))
            self.assertEqual(desk.run("count all18"), str(many))


def all_of(hearth, name):
    return (
        asks.open_of(hearth, name), suit.suits(hearth, name), roads.forebears(hearth, name),
        [roads.road(hearth, name, other) for other in hearth.people()[::10]],
        roads.called(hearth, name, "mcfk" * 50), roads.nearest(hearth, name, "p0"),
        joining.group_book(hearth, name).kept(), papers.barring(hearth.land, hearth.kept(), name),
    )


if __name__ == "__main__":
    unittest.main()
