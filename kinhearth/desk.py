"""Desks: books by names, and rows of words that are done in them or asked of them."""

from kinhearth.asks import dealings, open_of
from kinhearth.checks import is_name
from kinhearth.errors import BadName, BadText, KinError, NoBook, Taken
from kinhearth.figures import is_short_figures, sections_of, shown_sections
from kinhearth.hearth import Hearth
from kinhearth.joining import joined
from kinhearth.land import land_of
from kinhearth.roads import road

# For each first word what stands behind it.
FORMS = {
    "open": "NEW FIGURES FIGURES",
    "man": "BOOK NAME",
    "woman": "BOOK NAME",
    "mother": "BOOK NAME NAME",
    "father": "BOOK NAME NAME",
    "wed": "BOOK NAME NAME",
    "sibling": "BOOK NAME NAME",
    "said": "BOOK NAME FIGURES",
    "take": "BOOK FIGURES",
    "undo": "BOOK",
    "redo": "BOOK",
    "join": "NEW BOOK BOOK SAME",
    "who": "BOOK NAME",
    "count": "BOOK",
    "road": "BOOK NAME NAME",
}
ASKED = ("who", "count", "road")
DONE = "ok"
NO_PAIRS = "none"


def do_new_book(books, words):
    """A new book of a land."""
    first, name, mother, wife = words
    books[name] = Hearth(land_of(sections_of(mother), sections_of(wife)))
    return DONE


def do_person(books, words):
    """One more in a book."""
    side, book, name = words
    books[book].person(name, side)
    return DONE


def do_tie(books, words):
    """A tie; its number."""
    kind, book, one, other = words
    number = books[book].tie(kind, one, other)
    return f"kept {number}"


def do_saying(books, words):
    """A saying; its number."""
    first, book, name, section = words
    number = books[book].say(name, int(section))
    return f"kept {number}"


def do_taking(books, words):
    """A taking out."""
    first, book, number = words
    books[book].take(int(number))
    return DONE


def do_undoing(books, words):
    """An undoing."""
    books[words[1]].undo()
    return DONE


def do_redoing(books, words):
    """A redoing."""
    books[words[1]].redo()
    return DONE


def do_join(books, words):
    """A new book of two."""
    first, name, one, other, same = words
    books[name] = joined(books[one], books[other], pairs_of(same))
    return DONE


def ask_who(books, words):
    """The open sections of one."""
    first, book, name = words
    return shown_sections(open_of(books[book], name))


def ask_count(books, words):
    """How many dealings keep all."""
    return f"{dealings(books[words[1]])}"


def ask_road(books, words):
    """A dot and the least word from one to the other."""
    first, book, one, other = words
    word = road(books[book], one, other)
    return "-" if word is None else f".{word}"


DEEDS = {
    "open": do_new_book,
    "man": do_person,
    "woman": do_person,
    "mother": do_tie,
    "father": do_tie,
    "wed": do_tie,
    "sibling": do_tie,
    "said": do_saying,
    "take": do_taking,
    "undo": do_undoing,
    "redo": do_redoing,
    "join": do_join,
    "who": ask_who,
    "count": ask_count,
    "road": ask_road,
}


class Desk:
    """Books by names, and the log of what was done in them by rows."""

    def __init__(self):
        self.books = {}
        self.rows = []

    def run(self, row):
        """The answer to a row."""
        words = row.split(" ")
        try:
            check_form(words)
            check_books(self.books, words)
            deed = DEEDS[words[0]]
            answer = deed(self.books, words)
        except KinError as refusal:
            return f"refused {refusal.word}"
        if words[0] not in ASKED:
            self.rows.append(row)
        return answer

    def book(self, name):
        """A book, as the desk keeps it."""
        if name not in self.books:
            raise NoBook(name)
        return self.books[name]

    def books_held(self):
        """The names of the books in the order of their coming."""
        return list(self.books)

    def log(self):
        """All rows that were done."""
        return list(self.rows)


def check_form(words):
    """Refuses words that have not the form of a row."""
    if words[0] not in FORMS:
        raise BadText(words[0])
    parts = FORMS[words[0]].split(" ")
    if len(words) != len(parts) + 1:
        raise BadText(f"{len(words)} words")
    for part, word in zip(parts, words[1:]):
        if part == "FIGURES" and not is_short_figures(word):
            raise BadText(word)
        if part == "SAME":
            pairs_of(word)


def pairs_of(same):
    """The pairs of names that a word writes."""
    if same == NO_PAIRS:
        return []
    pairs = []
    for part in same.split(","):
        names = part.split("=")
        if len(names) != 2:
            raise BadText(same)
        pairs.append((names[0], names[1]))
    return pairs


def check_books(books, words):
    """Refuses books that are not there, and then names that a new book can't have."""
    parts = list(zip(FORMS[words[0]].split(" "), words[1:]))
    for part, word in parts:
        if part == "BOOK" and word not in books:
            raise NoBook(word)
    for part, word in parts:
        if part == "NEW" and not is_name(word):
            raise BadName(word)
        if part == "NEW" and word in books:
            raise Taken(word)
