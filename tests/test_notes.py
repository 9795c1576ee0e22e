"""Texts of lands and books: point 18, and kinhearth/notes.py of the interface."""

import random
import re
import unittest

from kinhearth.hearth import Hearth
from kinhearth.land import Land, alike_lands
from kinhearth.notes import read, read_land, shown, shown_land
from tests.helper import (
    CROOKED, KARIERA, LANDS, RING, PlainBook, all_told, contents, done, filled, great_book, great_lands, next_number,
    refused_with, small_books, some_deed, soon,
)

LAND_TEXT = "land 2301 3210 1032"
BOOK_TEXT = """land 2301 3210 1032
next 12
woman ann
man bob
man c1d
0 mother c1d ann
3 said bob 0
10 wed bob ann
11 father c1d bob"""
SIGNS = "0123456789abcdmnw \n=-_.A~"


def is_land_text(text):
    """Whether a text is a land's, by the words of points 8 and 18."""
    found = re.fullmatch("land ([0-7]+) ([0-7]+) ([0-7]+)", text)
    if not found:
        return False
    mother, father, wife = [[int(sign) for sign in word] for word in found.groups()]
    size = len(mother)
    turnings = all(sorted(turn) == list(range(size)) for turn in (mother, father, wife))
    return 2 <= size <= 8 and turnings and all(mother[wife[man]] == father[man] for man in range(size))


def plainly_read(text):
    """The contents of the book whose text it is, by a plain book, or None where it is no book's."""
    rows = text.split("\n")
    number = "(0|[1-9][0-9]{0,8})"
    if len(rows) < 2 or not is_land_text(rows[0]) or not re.fullmatch(f"next {number}", rows[1]):
        return None
    plain = PlainBook(Land(*[tuple(int(sign) for sign in word) for word in rows[0].split(" ")[1:]]))
    coming = int(rows[1].split(" ")[1])
    people = [row for row in rows[2:] if re.match("(man|woman) ", row)]
    for row in people:
        if row.count(" ") != 1 or plain.done(("person", *row.split(" ")[::-1])) is not None:
            return None
    least = 0
    for row in rows[2 + len(people):]:
        words = row.split(" ")
        if len(words) != 4 or not re.fullmatch(number, words[0]) or int(words[0]) < least:
            return None
        if words[1] == "said" and not re.fullmatch(number, words[3]):
            return None
        names, facts, coming_there = plain.state()
        plain.states[plain.at] = (names, facts, int(words[0]))
        deed = ("say", words[2], int(words[3])) if words[1] == "said" else ("tie", *words[1:])
        if isinstance(plain.done(deed), str):
            return None
        least = int(words[0]) + 1
    # A row of somebody behind one of a fact has not been met above in its place.
    if people != rows[2:2 + len(people)] or coming < least:
        return None
    plain.states[plain.at] = (*plain.state()[:2], coming)
    return plain.contents()


class Lands(unittest.TestCase):
    def test_shown(self):
        self.assertEqual(shown_land(KARIERA), LAND_TEXT)
        self.assertEqual(shown_land(RING), "land 012 120 120")
        self.assertEqual(shown_land(CROOKED), "land 12340 24301 13240")

    def test_each_text_read_back(self):
        for land in LANDS:
            text = shown_land(land)
            self.assertTrue(is_land_text(text))
            self.assertTrue(alike_lands(read_land(text), land))
            self.assertEqual(shown_land(read_land(text)), text)

    def test_no_land_text(self):
        for text in (
            "", " ", "\n", "land", "land ", "land 10", "land 10 10", "land 10 10 01 ", " land 10 10 01",
            "land 10 10 01\n", "\nland 10 10 01", "land  10 10 01", "land 10  10 01", "land 10 10  01",
            "land\n10 10 01", "Land 10 10 01", "land 10 10 01 01", "10 10 01", "land 0 0 0", "land 10 10 1",
            "land 10 10 011", "land 10 01 01", "land 11 11 01", "land 12 12 12", "land a0 10 01", "land 1a 10 01",
            "land 10 10 01x", "land +1 10 01", "land 10 10 -1", "land 1_0 10 01", "land 1,0 1,0 0,1", "book 10 10 01",
            "land 012345678 012345678 012345678", "land " + "0" * 5000 + " 1 2", "land (1,0) (1,0) (0,1)",
            "land " + " ".join(["0123456789"] * 3), "land 10 10 01\nnext 0",
        ):
            self.assertEqual(refused_with(read_land, text), "BadText", text)

    def test_texts_with_a_sign_changed_left_out_or_put_in(self):
        for land in [KARIERA, RING, CROOKED, great_lands()[-1]] + LANDS[:8]:
            for other in changed_texts(shown_land(land)):
                if is_land_text(other):
                    self.assertEqual(shown_land(read_land(other)), other)
                else:
                    self.assertEqual(refused_with(read_land, other), "BadText", other)


def changed_texts(text):
    """Texts with one sign left out, changed, put in or exchanged with the next one."""
    for place in range(len(text) + 1):
        yield text[:place]
        yield text[:place] + text[place + 1:]
        yield text[:place] + text[place:place + 2][::-1] + text[place + 2:]
        for sign in SIGNS:
            yield text[:place] + sign + text[place:]
            yield text[:place] + sign + text[place + 1:]


def changed_rows(text):
    """Texts with a row left out, twice, or exchanged with another one."""
    rows = text.split("\n")
    for place in range(len(rows)):
        yield "\n".join(rows[:place] + rows[place + 1:])
        yield "\n".join(rows[:place + 1] + rows[place:])
        yield "\n".join(rows + [rows[place]])
        for other in range(place):
            turned = list(rows)
            turned[place], turned[other] = rows[other], rows[place]
            yield "\n".join(turned)


class Shown(unittest.TestCase):
    def test_an_empty_book(self):
        self.assertEqual(shown(Hearth(KARIERA)), LAND_TEXT + "\nnext 0")

    def test_a_book(self):
        hearth = filled(KARIERA, "bob/m ann/w c1/m", [
            ("mother", "c1", "ann"), ("said", "bob", 3), ("wed", "bob", "ann"),
        ])
        self.assertEqual(shown(hearth), LAND_TEXT + (
            "\nnext 3\nman bob\nwoman ann\nman c1\n0 mother c1 ann\n1 said bob 3\n2 wed bob ann"))
        hearth.take(1)
        self.assertEqual(shown(hearth), LAND_TEXT + (
            "\nnext 3\nman bob\nwoman ann\nman c1\n0 mother c1 ann\n2 wed bob ann"))
        hearth.undo()
        hearth.undo()
        self.assertEqual(shown(hearth), LAND_TEXT + (
            "\nnext 2\nman bob\nwoman ann\nman c1\n0 mother c1 ann\n1 said bob 3"))

    def test_many_facts_by_rising_numbers(self):
        hearth = filled(RING, "a/w b/w c/w d/w e/w f/w")
        for one, other in zip("aaaaabbbbcccd", "bcdefcdefdefe"):
            hearth.tie("sibling", one, other)
        rows = shown(hearth).split("\n")
        self.assertEqual([row.split(" ")[0] for row in rows[8:]], [str(number) for number in range(13)])

    def test_asking_changes_nothing(self):
        hearth = filled(KARIERA, "bob/m", [("said", "bob", 1)])
        hearth.undo()
        before = all_told(hearth)
        shown(hearth)
        self.assertEqual(all_told(hearth), before)


class Read(unittest.TestCase):
    def check(self, text):
        """Reads a text just where a plain reading does, to the same book."""
        expected = plainly_read(text)
        if expected is None:
            self.assertEqual(refused_with(read, text), "BadText", text)
            return False
        book = read(text)
        self.assertEqual(contents(book), expected, text)
        self.assertEqual(shown(book), text)
        self.assertEqual((book.undoable(), book.redoable()), (0, 0))
        return True

    def test_a_book(self):
        book = read(BOOK_TEXT)
        self.assertIsInstance(book, Hearth)
        self.assertEqual(book.people(), ["ann", "bob", "c1d"])
        self.assertEqual(book.kept(), [
            (0, "mother", "c1d", "ann"), (3, "said", "bob", 0), (10, "wed", "bob", "ann"),
            (11, "father", "c1d", "bob"),
        ])
        self.assertEqual(next_number(book), 12)
        self.assertTrue(self.check(BOOK_TEXT))

    def test_each_text_read_back(self):
        for hearth in small_books(LANDS) + [Hearth(land) for land in great_lands()]:
            self.assertTrue(self.check(shown(hearth)))
            self.assertEqual(contents(read(shown(hearth))), contents(hearth))

    def test_a_next_number_above_all_numbers(self):
        for number in (12, 13, 99, 100, 10 ** 8, 999999999):
            text = BOOK_TEXT.replace("next 12", f"next {number}")
            self.assertTrue(self.check(text))
            self.assertEqual(read(text).say("ann", 1), number)
        for number in (0, 1, 10, 11):
            self.assertFalse(self.check(BOOK_TEXT.replace("next 12", f"next {number}")))

    def test_numbers_of_nine_and_of_ten_figures(self):
        self.assertTrue(self.check(LAND_TEXT + "\nnext 999999999"))
        self.assertFalse(self.check(LAND_TEXT + "\nnext 1000000000"))
        self.assertFalse(self.check(LAND_TEXT + "\nnext 0999999999"))
        self.assertTrue(self.check(LAND_TEXT + "\nnext 999999999\nman bob\n999999998 said bob 3"))
        self.assertFalse(self.check(LAND_TEXT + "\nnext 999999999\nman bob\n999999999 said bob 3"))
        self.assertFalse(self.check(LAND_TEXT + "\nnext 9999999999\nman bob\n999999999 said bob 3"))
        self.assertFalse(self.check(LAND_TEXT + "\nnext 999999999\nman bob\n5 said bob 0000000003"))
        self.assertFalse(self.check(LAND_TEXT + "\nnext 999999999\nman bob\n5 said bob 999999999"))
        self.assertFalse(self.check(LAND_TEXT + "\nnext 999999999\nman bob\n5 said bob " + "9" * 60))
        self.assertFalse(self.check(LAND_TEXT + "\nnext " + "9" * 60))

    def test_a_book_whose_number_has_ten_figures(self):
        book = read(LAND_TEXT + "\nnext 999999999\nman bob")
        self.assertEqual(shown(book), LAND_TEXT + "\nnext 999999999\nman bob")
        self.assertEqual(book.say("bob", 2), 999999999)
        before = all_told(book)
        self.assertEqual(refused_with(shown, book), "BadText")
        self.assertEqual(all_told(book), before)
        self.assertEqual(book.kept(), [(999999999, "said", "bob", 2)])
        book.take(999999999)
        self.assertEqual(refused_with(shown, book), "BadText")
        self.assertEqual(book.say("bob", 2), 1000000000)
        self.assertEqual(refused_with(shown, book), "BadText")
        for many in range(3):
            book.undo()
        self.assertEqual(shown(book), LAND_TEXT + "\nnext 999999999\nman bob")

    def test_noughts_ahead(self):
        for old, new in (
            ("next 12", "next 012"), ("\n0 mother", "\n00 mother"), ("3 said", "03 said"), ("bob 0", "bob 00"),
            ("next 12", "next 0000000012"), ("10 wed", "010 wed"),
        ):
            self.assertIn(old, BOOK_TEXT)
            self.assertFalse(self.check(BOOK_TEXT.replace(old, new)))

    def test_rows_that_a_book_would_refuse(self):
        head = LAND_TEXT + "\nnext 9\nwoman ann\nman bob\nwoman cat"
        for rows in (
            "\nman ann", "\nman Ann", "\nman", "\nman ", "\nman a b", "\nman abcdefghijklm", "\nchild ann",
            "\nwomen dot", "\n0 wife bob ann", "\n0 m bob ann", "\n0 said ann 4", "\n0 said ann -1", "\n0 said dan 0",
            "\n0 said ann cat",
            "\n0 mother bob dan", "\n0 mother cat bob", "\n0 wed ann bob", "\n0 sibling ann ann",
            "\n0 mother cat ann\n1 mother cat ann", "\n0 sibling cat ann\n1 sibling ann cat",
            "\n0 mother cat ann\n1 mother ann cat", "\n0 mother ann ann", "\n0 said ann 0\n1 said ann 0",
            "\n0 said ann 0\n1 said ann 1", "\n0 mother cat ann\n1 sibling cat ann",
            "\n0 wed bob ann\n1 said ann 0\n2 said bob 0",
            "\n1 said ann 0\n0 said bob 0", "\n1 said ann 0\n1 said bob 0", "\n0 said ann", "\n0 said ann 0 0",
            "\nsaid ann 0", "\nx said ann 0", "\n-1 said ann 0", "\n+1 said ann 0", "\n0 said ann +0", "\n9 said ann 0",
            "\n0 said ann 0\nman dan", "\n", "\n\n", " ", "\n0 take ann 0", "\n0 undo ann 0", "\nnext 9",
            "\n0 Said ann 0",
        ):
            self.assertFalse(self.check(head + rows), rows)
        self.assertTrue(self.check(head))
        self.assertTrue(self.check(head + "\nman dan\n0 said ann 0\n7 wed bob cat\n8 sibling cat ann"))

    def test_texts_that_are_no_books(self):
        for text in (
            "", "\n", " ", "\n\n", LAND_TEXT, LAND_TEXT + "\n", LAND_TEXT + "\n\nnext 0", "next 0\n" + LAND_TEXT,
            "next 0", LAND_TEXT + "\nnext", LAND_TEXT + "\nnext ", LAND_TEXT + "\nnext 0 ", LAND_TEXT + "\nnext 0\n",
            LAND_TEXT + "\nnext  0", LAND_TEXT + "\n next 0", LAND_TEXT + "\nnext 1 2", LAND_TEXT + "\nnext x",
            LAND_TEXT + "\nNext 0", LAND_TEXT + "\nnext -1", LAND_TEXT + "\nman bob", LAND_TEXT + " \nnext 0",
            "\n" + LAND_TEXT + "\nnext 0", LAND_TEXT + "\nlast 0", "land 01 10 01\nnext 0", "land 0 0 0\nnext 0",
            "land 10 10 01\nnext 0\nnext 0", LAND_TEXT + "\nnext 0\n" + LAND_TEXT,
        ):
            self.assertFalse(self.check(text), text)

    def test_a_sign_changed_left_out_or_put_in(self):
        # A shorter book, as each of its texts is held against a plain count.
        text = "land 012 120 120\nnext 12\nwoman ann\nman b0\n0 mother b0 ann\n3 said b0 1\n10 sibling ann b0"
        self.assertTrue(self.check(text))
        good = [self.check(other) for other in changed_texts(text)]
        self.assertGreater(sum(good), 20)
        self.assertGreater(len(good) - sum(good), 2000)

    def test_rows_left_out_twice_or_exchanged(self):
        good = 0
        for text in [BOOK_TEXT] + [shown(hearth) for hearth in small_books(LANDS[::6])]:
            for other in changed_rows(text):
                good += self.check(other)
        self.assertGreater(good, 50)

    def test_nothing_to_undo(self):
        book = read(BOOK_TEXT)
        self.assertEqual(refused_with(book.undo), "NothingLeft")
        self.assertEqual(refused_with(book.redo), "NothingLeft")
        book.person("eve", "woman")
        book.undo()
        self.assertEqual(refused_with(book.undo), "NothingLeft")
        self.assertEqual(shown(book), BOOK_TEXT)

    def test_books_read_go_their_own_ways(self):
        for seed in range(10):
            chance = random.Random(seed)
            hearth = filled(RING, "ann/w bob/m cid/m")
            for step in range(8):
                done(hearth, some_deed(chance, RING, ["ann", "bob", "cid"], range(5)))
            books = [hearth, read(shown(hearth)), read(shown(hearth))]
            for step in range(30):
                chance.shuffle(books)
                before = [all_told(book) for book in books[1:]]
                done(books[0], some_deed(chance, RING, ["ann", "bob", "cid"], range(9)))
                self.assertEqual([all_told(book) for book in books[1:]], before)

    def test_great_books(self):
        with soon(30):
            for land in great_lands()[::2]:
                hearth, dealt = great_book(land, 2)
                for number in range(0, 400, 7):
                    hearth.take(number)
                text = shown(hearth)
                self.assertEqual(contents(read(text)), contents(hearth))
                self.assertEqual(shown(read(text)), text)
                self.assertEqual(refused_with(read, text + "\n"), "BadText")
                self.assertEqual(refused_with(read, text + " "), "BadText")


if __name__ == "__main__":
    unittest.main()
