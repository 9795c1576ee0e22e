"""Several books in turn, and great ones: points 1 to 4 over whole books."""

import itertools
import random
import unittest

from kinhearth.asks import dealings, groups, open_of
from kinhearth.errors import Barred, KinError
from kinhearth.hearth import Hearth
from tests.helper import (
    CROOKED, KARIERA, RING, TIES, PlainBook, all_told, contents, done, great_book, great_lands, kept_by, shows,
    some_deed, soon,
)


class InTurn(unittest.TestCase):
    def test_two_books_in_turn(self):
        for seed, (one, other) in enumerate(itertools.product([KARIERA, RING, CROOKED], repeat=2)):
            chance = random.Random(seed)
            books = [(Hearth(one), PlainBook(one)), (Hearth(other), PlainBook(other))]
            for hearth, plain in books:
                for name, side in (("ann", "woman"), ("bob", "man"), ("cid", "man")):
                    self.assertEqual(done(hearth, ("person", name, side)), plain.done(("person", name, side)))
            for step in range(60):
                hearth, plain = chance.choice(books)
                deed = some_deed(chance, hearth.land, ["ann", "bob", "cid"], range(6))
                self.assertEqual(done(hearth, deed), plain.done(deed))
                for book, plain_book in books:
                    self.assertEqual(all_told(book), plain_book.all_told())

    def test_the_same_names_in_unlike_lands(self):
        books = [Hearth(land) for land in great_lands() + great_lands()]
        for book in books:
            book.person("ann", "woman")
            book.person("bob", "man")
        for number, book in enumerate(books):
            self.assertEqual(book.say("ann", number % book.land.size), 0)
        for number, book in enumerate(books):
            self.assertEqual(open_of(book, "ann"), [number % book.land.size])
            self.assertEqual(open_of(book, "bob"), list(range(book.land.size)))


class Great(unittest.TestCase):
    def test_books_of_the_greatest_size(self):
        with soon(30):
            for land in great_lands():
                hearth, dealt = great_book(land, land.size)
                self.assertEqual((len(hearth.people()), len(hearth.kept())), (200, 400))
                self.assertTrue(all(kept_by(land, dealt, fact) for fact in hearth.kept()))
                self.assertEqual(contents(hearth.twin()), contents(hearth))

    def test_barred_in_great_books(self):
        with soon(30):
            for land in great_lands()[2:]:
                hearth, dealt = great_book(land, 4)
                names, seen, before = hearth.people(), 0, hearth.kept()
                for one, other in itertools.product(names[:12], names[-12:]):
                    try:
                        hearth.tie("sibling", one, other)
                        hearth.undo()
                    except Barred as raised:
                        facts = before + [(400, "sibling", one, other)]
                        for section, paper in enumerate(raised.walks):
                            self.assertTrue(shows(land, facts, one, section, paper))
                        seen += 1
                    except KinError:
                        pass
                self.assertGreater(seen, 20)
                self.assertEqual(hearth.kept(), before)

    def test_a_thousand_deeds(self):
        with soon(60):
            for seed, land in enumerate([KARIERA, great_lands()[-1]]):
                chance = random.Random(seed)
                hearth, dealt = great_book(land, seed, people=200, facts=300)
                states = {hearth.undoable(): self.told(hearth)}
                while hearth.undoable() < 1000:
                    many = hearth.undoable()
                    deed = self.deed_of(chance, hearth, dealt)
                    if not isinstance(done(hearth, deed), str):
                        self.assertEqual((hearth.undoable(), hearth.redoable()), (many + 1, 0))
                        states[many + 1] = self.told(hearth)
                for many in range(999, 499, -1):
                    hearth.undo()
                    self.assertEqual((hearth.undoable(), hearth.redoable()), (many, 1000 - many))
                    self.assertEqual(self.told(hearth), states[many])
                for many in range(501, 1001):
                    hearth.redo()
                    self.assertEqual(self.told(hearth), states[many])

    def deed_of(self, chance, hearth, dealt):
        """Takings out, and facts that the dealing keeps, so that the book stays full."""
        facts = hearth.kept()
        if len(facts) > 390 or (facts and chance.random() < 0.45):
            return ("take", chance.choice(facts)[0])
        one, other, kind = chance.choice(hearth.people()), chance.choice(hearth.people()), chance.choice(TIES)
        if kept_by(hearth.land, dealt, (0, kind, one, other)):
            return ("tie", kind, one, other)
        return ("say", one, dealt[one])

    def told(self, hearth):
        return hearth.kept(), dealings(hearth), len(groups(hearth)), [open_of(hearth, name) for name in ("p0", "p99")]

    def test_long_lines_of_elders(self):
        with soon():
            hearth = Hearth(KARIERA)
            names = [f"p{number}" for number in range(200)]
            for name in names:
                hearth.person(name, "man")
            for child, father in zip(names, names[1:]):
                hearth.tie("father", child, father)
            self.assertEqual(done(hearth, ("tie", "father", "p199", "p0")), "OwnElder")
            self.assertEqual(done(hearth, ("tie", "father", "p199", "p199")), "OwnElder")
            try:
                hearth.tie("father", "p199", "p0")
            except KinError as raised:
                self.assertEqual(raised.line, names)


if __name__ == "__main__":
    unittest.main()
