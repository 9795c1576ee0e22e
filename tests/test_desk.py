"""Desks: point 19, and kinhearth/desk.py of the interface."""

import itertools
import random
import unittest

from kinhearth.asks import dealings, open_of
from kinhearth.desk import Desk
from kinhearth.errors import NoBook
from kinhearth.hearth import Hearth
from kinhearth.land import alike_lands
from kinhearth.notes import shown
from kinhearth.roads import road
from tests.helper import CROOKED, KARIERA, TIES, all_told, contents, done, filled, refused_with, some_deed, soon

NO_FIGURES = ["", "x", "-1", "+1", "1.0", "1x", "0000000001", "1234567890", "1\n", "\n", "1_0", "one", "1,0"]


def told(*rows):
    """A desk to which rows were told, each of which is done."""
    desk = Desk()
    for row in rows:
        answer = desk.run(row)
        if answer.startswith("refused"):
            raise AssertionError(f"{row}: {answer}")
    return desk


def state(desk):
    """All that a desk tells."""
    return desk.books_held(), [all_told(desk.book(name)) for name in desk.books_held()], desk.log()


OPEN = "open b 2301 1032"
PEOPLE = ("man b bob", "woman b ann", "man b cid")
FACTS = ("wed b bob ann", "mother b cid ann", "said b bob 0")


class Done(unittest.TestCase):
    def setUp(self):
        self.desk = told(OPEN, *PEOPLE, *FACTS)

    def test_a_new_desk(self):
        desk = Desk()
        self.assertEqual((desk.books_held(), desk.log()), ([], []))
        self.assertRaises(NoBook, desk.book, "b")

    def test_answers(self):
        desk = Desk()
        answers = [desk.run(row) for row in (OPEN, *PEOPLE, *FACTS)]
        self.assertEqual(answers, ["ok", "ok", "ok", "ok", "kept 0", "kept 1", "kept 2"])
        self.assertEqual(desk.run("father b cid bob"), "kept 3")
        self.assertEqual(desk.run("woman b dot"), "ok")
        self.assertEqual(desk.run("sibling b dot cid"), "kept 4")
        self.assertEqual(desk.run("take b 3"), "ok")
        self.assertEqual(desk.run("undo b"), "ok")
        self.assertEqual(desk.run("redo b"), "ok")
        self.assertEqual(desk.run("join c b b bob=bob,ann=ann,cid=cid,dot=dot"), "ok")

    def test_what_was_done(self):
        book = self.desk.book("b")
        self.assertIsInstance(book, Hearth)
        self.assertTrue(alike_lands(book.land, KARIERA))
        self.assertEqual([(name, book.side_of(name)) for name in book.people()], [
            ("bob", "man"), ("ann", "woman"), ("cid", "man"),
        ])
        self.assertEqual(book.kept(), [(0, "wed", "bob", "ann"), (1, "mother", "cid", "ann"), (2, "said", "bob", 0)])
        self.desk.run("take b 1")
        self.desk.run("father b cid bob")
        self.assertEqual([fact[0] for fact in book.kept()], [0, 2, 3])
        self.desk.run("undo b")
        self.desk.run("undo b")
        self.assertEqual([fact[0] for fact in book.kept()], [0, 1, 2])
        self.desk.run("redo b")
        self.assertEqual([fact[0] for fact in book.kept()], [0, 2])

    def test_lands_of_each_size(self):
        for size in range(2, 9):
            figures = "01234567"[:size]
            desk = told(f"open b {figures[::-1]} {figures}")
            self.assertEqual(desk.book("b").land.mother, tuple(range(size))[::-1])
            self.assertEqual(desk.book("b").land.size, size)
        desk = told("open crooked 12340 13240")
        self.assertEqual(desk.book("crooked").land.father, CROOKED.father)

    def test_several_books(self):
        for row in ("open zoe 10 01", "open a 012 120", "man a bob", "said a bob 2", "man zoe bob"):
            self.assertTrue(self.desk.run(row) in ("ok", "kept 0"))
        self.assertEqual(self.desk.books_held(), ["b", "zoe", "a"])
        self.assertEqual(self.desk.run("who a bob"), "2")
        self.assertEqual(self.desk.run("who zoe bob"), "01")
        self.assertEqual(self.desk.run("who b bob"), "0")

    def test_numbers_with_noughts_ahead(self):
        self.assertEqual(self.desk.run("said b cid 000000003"), "kept 3")
        self.assertEqual(self.desk.run("take b 0003"), "ok")
        self.assertEqual(self.desk.run("take b 000000000"), "ok")
        self.assertEqual([fact[0] for fact in self.desk.book("b").kept()], [1, 2])

    def test_join(self):
        desk = told(OPEN, *PEOPLE, *FACTS, "open c 2301 1032", "woman c eve", "man c bob", "wed c bob eve")
        self.assertEqual(desk.run("join d b c bob=bob,ann=eve"), "ok")
        self.assertEqual(desk.book("d").people(), ["bob", "ann", "cid"])
        self.assertEqual(desk.book("d").kept(), desk.book("b").kept())
        self.assertEqual(desk.run("join e c b bob=bob"), "ok")
        self.assertEqual(desk.book("e").people(), ["eve", "bob", "ann", "cid"])
        self.assertEqual(desk.run("undo e"), "refused nothing left")
        self.assertEqual(desk.run("join f e e none"), "refused name taken")
        self.assertEqual(desk.run("open g 2301 1032"), "ok")
        self.assertEqual(desk.run("join none g g none"), "ok")
        self.assertEqual(desk.run("man none none"), "ok")
        self.assertEqual(desk.run("join h none none none=none"), "ok")
        self.assertEqual(desk.book("h").people(), ["none"])
        self.assertEqual(desk.books_held(), ["b", "c", "d", "e", "g", "none", "h"])


class Asked(unittest.TestCase):
    def setUp(self):
        self.desk = told(OPEN, *PEOPLE, "woman b dot", *FACTS[:2])

    def test_who(self):
        self.assertEqual(self.desk.run("who b bob"), "0123")
        self.desk.run("said b bob 1")
        for name, sections in (("bob", "1"), ("ann", "0"), ("cid", "2"), ("dot", "0123")):
            self.assertEqual(self.desk.run(f"who b {name}"), sections)

    def test_count(self):
        self.assertEqual(self.desk.run("count b"), "16")
        self.desk.run("said b bob 1")
        self.assertEqual(self.desk.run("count b"), "4")
        self.assertEqual(told("open e 10 01").run("count e"), "1")

    def test_great_counts(self):
        desk = told("open b 12345670 01234567", *[f"man b p{number}" for number in range(200)])
        self.assertEqual(desk.run("count b"), str(8 ** 200))

    def test_road(self):
        self.assertEqual(self.desk.run("road b bob bob"), ".")
        self.assertEqual(self.desk.run("road b bob ann"), ".w")
        self.assertEqual(self.desk.run("road b cid bob"), ".mh")
        self.assertEqual(self.desk.run("road b cid dot"), "-")
        self.assertEqual(self.desk.run("road b dot cid"), "-")

    def test_asking_is_not_logged_and_changes_nothing(self):
        before = state(self.desk)
        for row in ("who b bob", "count b", "road b bob ann", "road b bob dot"):
            self.desk.run(row)
        self.assertEqual(state(self.desk), before)


class Refused(unittest.TestCase):
    def setUp(self):
        self.desk = told(OPEN, *PEOPLE, *FACTS, "open c 012 120", "undo b")
        self.before = state(self.desk)

    def refused(self, word, *rows):
        for row in rows:
            self.assertEqual(self.desk.run(row), f"refused {word}", row)
            self.assertEqual(state(self.desk), self.before, row)

    def test_another_first_word(self):
        self.refused(
            "no text", "", " ", "\n", "opens d 10 01", "Open d 10 01", "open\n", "child b bob ann", "say b bob 1",
            "tie b bob ann", "forget b", "mother\n b cid ann", "wed\nb bob ann", "person b bob", "read b", "b", "none",
        )

    def test_another_count_of_words(self):
        rows = [
            OPEN, "man b eve", "woman b eve", "father b cid bob", "mother b bob ann", "wed b cid ann", "said b bob 1",
            "sibling b bob cid", "take b 0", "undo b", "redo b", "join d b b none", "who b bob", "count b",
            "road b bob ann",
        ]
        for row in rows:
            words = row.split(" ")
            for many in range(1, len(words)):
                self.refused("no text", " ".join(words[:many]))
            self.refused("no text", row + " x", row + " ann", row + " 1", row + " none")

    def test_blanks_too_many(self):
        for row in ("man b eve", "father b cid bob", "said b bob 0", "take b 0", "undo b", "redo b", "count b"):
            first, last = row.split(" ", 1), row.rsplit(" ", 1)
            self.refused("no text", " " + row, row + " ", "  ".join(first), "  ".join(last))

    def test_line_ends(self):
        self.refused("no text", "\nundo b", "take b 0\n", "take b \n0", "said b bob 0\n")
        self.refused("no book", "undo b\n", "undo \nb", "count b\n")
        self.refused("no name", "man b eve\n", "man b \neve", "open d\n 10 01")
        self.refused("no person", "who b bob\n", "father b cid bob\n", "road b bob ann\n")

    def test_words_that_are_not_one_to_nine_figures(self):
        for word in NO_FIGURES:
            self.refused("no text", f"open d {word} 01", f"open d 01 {word}", f"said b bob {word}", f"take b {word}")

    def test_words_of_nine_figures(self):
        self.refused("no section", "said b bob 999999999", "said b bob 000000004", "said b bob 4")
        self.refused("no fact", "take b 999999999", "take b 000000009", "take b 2")
        self.refused("no land", "open d 012345678 012345678", "open d 000000010 01", "open d 01 000000001")

    def test_same_with_each_form(self):
        for same in (
            "", "nobody", "None", "none,", ",none", "none,none", "bob", "bob=bob,", ",bob=bob", "bob=bob,,ann=ann",
            "bob=bob,none", "bob==bob", "bob=bob=bob", "bob:bob", "bob=bob,ann", "bob=bob;ann=ann", "none\n", ",", "==",
        ):
            self.refused("no text", f"join d b b {same}")
        self.refused("no person", "join d b b =", "join d b b =bob", "join d b b bob=", "join d b b zed=bob")
        self.refused("no person", "join d b b bob=zed", "join d b b bob=bob\n", "join d b b none=none")

    def test_no_text_ahead_of_all_else(self):
        self.refused(
            "no text", "man z", "said z bob x", "take z -1", "open B x 01", "open b 10 x", "join b z z bob",
            "join B b b ,", "undo z x", "said z zed 1234567890", "who z", "count", "road z bob",
        )

    def test_no_book(self):
        for name in ("z", "", "B", "bb", "b,c", "b="):
            self.refused(
                "no book", f"man {name} eve", f"woman {name} eve", f"mother {name} bob ann", f"father {name} cid bob",
                f"wed {name} bob ann", f"sibling {name} bob ann", f"said {name} bob 1", f"take {name} 0",
                f"undo {name}", f"redo {name}", f"join d {name} b none", f"join d b {name} none",
                f"join d {name} {name} none", f"who {name} bob", f"count {name}", f"road {name} bob ann",
            )

    def test_no_book_ahead_of_names(self):
        self.refused("no book", "join B z b none", "join b b z none", "join B z z none", "join b z b zed=zed")
        self.refused("no book", "man z Eve", "said z zed 9", "take z 77", "mother z zed zed")

    def test_names_of_new_books(self):
        for name in ("", "B", "1b", "b_", "abcdefghijklm", "d\n", "b=", "b,"):
            self.refused("no name", f"open {name} 10 01", f"join {name} b b none")
        self.refused("name taken", "open b 10 01", "open c 012 120", "join b b b none", "join c b b none")

    def test_names_ahead_of_what_the_book_refuses(self):
        self.refused("no name", "open B 11 11", "open B 0 0", "join B b c none", "join B b b zed=zed")
        self.refused("name taken", "open b 11 11", "open c 0 0", "join b b c none", "join c b b bob=ann")
        self.refused("no land", "open d 11 11", "open d 0 0", "open d 10 012", "open d 01 11", "open d 12 21")
        self.refused("unlike lands", "join d b c none", "join d c b bob=bob")

    def test_what_the_book_refuses(self):
        self.refused("no name", "man b Eve", "woman b 1", "man b abcdefghijklm", "man b ")
        self.refused("name taken", "man b bob", "woman b bob")
        self.refused("no person", "mother b zed ann", "wed b bob zed", "said b zed 1", "who b zed", "road b bob zed")
        self.refused("no person", "road b zed bob", "sibling b  bob", "who b ")
        self.refused("wrong side", "mother b bob cid", "father b bob ann", "wed b ann bob", "wed b bob cid")
        self.refused("told twice", "wed b bob ann", "mother b cid ann", "sibling b bob bob")
        self.refused("own elder", "mother b ann ann", "father b bob bob")
        self.refused("barred", "sibling b bob ann", "sibling b ann cid", "sibling b cid bob")
        self.refused("no section", "said b bob 8", "said b bob 4")
        self.refused("no fact", "take b 2", "take b 3", "take c 0")
        self.refused("nothing left", "undo c", "redo c")
        self.refused("name taken", "join d b b none", "join d b b bob=bob")
        self.refused("told twice", "join d b b bob=bob,bob=bob")
        self.refused("wrong side", "join d b b bob=ann")

    def test_sayings_refused(self):
        self.desk.run("redo b")
        self.assertEqual(self.desk.run("said b bob 0"), "refused told twice")
        self.assertEqual(self.desk.run("said b bob 1"), "refused barred")
        self.assertEqual(self.desk.run("redo b"), "refused nothing left")

    def test_of_two_joined_books_the_first_one_first(self):
        # Both are missing: which one is told makes no other answer, but a held one never hides a missing one.
        self.refused("no book", "join d y z none", "join d b z none", "join d y b none")


class BooksHeld(unittest.TestCase):
    def setUp(self):
        self.desk = told(OPEN, *PEOPLE, *FACTS, "open c 012 120")

    def test_no_book(self):
        for name in ("", "z", "B", "b "):
            self.assertEqual(refused_with(self.desk.book, name), "NoBook")

    def test_a_book_as_the_desk_keeps_it(self):
        log = self.desk.log()
        book = self.desk.book("b")
        book.person("eve", "woman")
        self.assertEqual(book.say("eve", 3), 3)
        self.assertEqual(self.desk.run("who b eve"), "3")
        self.assertEqual(self.desk.run("undo b"), "ok")
        self.assertEqual(book.kept()[-1], (2, "said", "bob", 0))
        self.assertEqual(self.desk.log(), log + ["undo b"])
        self.desk.run("take b 2")
        self.assertEqual(len(self.desk.book("b").kept()), 2)
        self.assertEqual(len(book.kept()), 2)

    def test_told_lists_that_are_changed_change_nothing(self):
        before = state(self.desk)
        self.desk.books_held().clear()
        self.desk.books_held().append("z")
        self.desk.log().clear()
        self.desk.log().reverse()
        self.assertEqual(state(self.desk), before)
        self.assertEqual(refused_with(self.desk.book, "z"), "NoBook")

    def test_two_desks_have_nothing_to_do_with_one_another(self):
        other = told("open b 10 01")
        before = state(self.desk)
        other.run("man b eve")
        other.run("open d 10 01")
        self.assertEqual(state(self.desk), before)
        self.assertEqual(other.books_held(), ["b", "d"])


class Logs(unittest.TestCase):
    def test_what_was_done_alone(self):
        desk = Desk()
        rows = [OPEN, *PEOPLE, *FACTS, "take b 0", "undo b", "redo b", "join c b b bob=bob,ann=ann,cid=cid"]
        for row in rows:
            desk.run("who b bob")
            desk.run("count b")
            desk.run("man b Eve")
            desk.run(" " + row)
            desk.run(row)
            desk.run("road b bob ann")
            desk.run("take b 99")
        self.assertEqual(desk.log(), rows)

    def test_rows_as_they_were_told(self):
        rows = ["open b 2301 1032", "man b bob", "said b bob 000000003", "take b 000"]
        self.assertEqual(told(*rows).log(), rows)

    def test_told_again_to_a_new_desk(self):
        for seed in range(15):
            desk = Desk()
            for row in some_rows(random.Random(seed), 150):
                desk.run(row)
            again = Desk()
            for row in desk.log():
                self.assertFalse(again.run(row).startswith("refused"))
            self.assertEqual(state(again), state(desk))


def some_rows(chance, many):
    """Rows by chance, of books and names some of which are not there."""
    books, names = ["a", "b", "c", "d"], ["ann", "bob", "cid", "eve"]
    kinds = TIES * 2 + ["said", "take", "undo", "redo", "man", "woman", "join", "who", "count", "road"]
    rows = ["open a 012 120", "open b 012 120", "open c 10 10"]
    rows += [f"{side} {book} {name}" for book in "abc" for side, name in (("woman", "ann"), ("man", "bob"))]
    for row in range(many):
        kind = chance.choice(kinds)
        book, one, other = chance.choice(books[:3] * 3 + books), chance.choice(names), chance.choice(names)
        if kind in TIES + ["road"]:
            rows.append(f"{kind} {book} {one} {other}")
        elif kind in ("man", "woman", "who"):
            rows.append(f"{kind} {book} {one}")
        elif kind in ("undo", "redo", "count"):
            rows.append(f"{kind} {book}")
        elif kind == "join":
            same = chance.choice(["none", f"{one}={other}", "ann=ann,bob=bob", "bob=bob,ann=ann,cid=cid,eve=eve"])
            rows.append(f"join {chance.choice(books)} {book} {chance.choice(books)} {same}")
        else:
            rows.append(f"{kind} {book} {one} {chance.randrange(4)}" if kind == "said" else f"take {book} {row % 7}")
    return rows


class AgainstBooks(unittest.TestCase):
    def test_deeds(self):
        """A desk's book against a book to which the same is done by hand."""
        for seed in range(20):
            chance = random.Random(seed)
            desk = told(OPEN, *PEOPLE)
            plain = filled(KARIERA, "bob/m ann/w cid/m")
            self.assertEqual(contents(desk.book("b")), contents(plain))
            for step in range(60):
                deed = some_deed(chance, KARIERA, ["bob", "ann", "cid", "zed"], range(12))
                if deed[-1] == -1:
                    continue
                words = [str(word) for word in deed]
                # Of a tie the kind is the row's first word.
                first, *rest = words[1:] if deed[0] == "tie" else ["said" if deed[0] == "say" else deed[0]] + words[1:]
                row = " ".join([first, "b"] + rest)
                answer, expected = desk.run(row), done(plain, deed)
                if isinstance(expected, str):
                    self.assertTrue(answer.startswith("refused "), (row, answer))
                else:
                    self.assertEqual(answer, "ok" if expected is None else f"kept {expected}")
                self.assertEqual(all_told(desk.book("b"))[0], all_told(plain)[0])
                self.assertEqual(desk.run("count b"), str(dealings(plain)))
                for one, other in itertools.product(plain.people(), repeat=2):
                    self.assertEqual(desk.run(f"who b {one}"), "".join(str(at) for at in open_of(plain, one)))
                    word = road(plain, one, other)
                    self.assertEqual(desk.run(f"road b {one} {other}"), "-" if word is None else "." + word)

    def test_hundreds_of_rows(self):
        with soon(30):
            desk, chance = Desk(), random.Random(5)
            desk.run("open b 12345670 76543210")
            for number in range(200):
                self.assertEqual(desk.run(f"{chance.choice(['man', 'woman'])} b p{number}"), "ok")
            for row in range(600):
                kind, one, other = chance.choice(TIES), chance.randrange(200), chance.randrange(200)
                desk.run(f"{kind} b p{one} p{other}")
                if row % 10 == 0:
                    desk.run("undo b")
                    desk.run(f"who b p{one}")
                    desk.run(f"road b p{one} p{other}")
                    desk.run("count b")
            again = Desk()
            for row in desk.log():
                again.run(row)
            self.assertEqual(shown(again.book("b")), shown(desk.book("b")))


if __name__ == "__main__":
    unittest.main()
