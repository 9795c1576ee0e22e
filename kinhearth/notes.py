"""Notes: texts of lands and of books, and what is read from them."""

from kinhearth.checks import MAN, WOMAN
from kinhearth.errors import BadLand, BadText, KinError, Unequal
from kinhearth.facts import SAID, tell_fact
from kinhearth.figures import GREATEST_NUMBER, is_figures, is_number, sections_of, shown_sections
from kinhearth.hearth import Hearth
from kinhearth.land import Land

LAND = "land"
NEXT = "next"


def shown_land(land):
    """The text of a land."""
    return f"{LAND} {shown_sections(land.mother)} {shown_sections(land.father)} {shown_sections(land.wife)}"


def read_land(text):
    """The land whose text it is."""
    word, *turns = words_of(text, 4)
    if word != LAND or not all([is_figures(turn) for turn in turns]):
        raise BadText("no land's text")
    mother, father, wife = [sections_of(turn) for turn in turns]
    try:
        return Land(mother, father, wife)
    except (BadLand, Unequal):
        raise BadText("no land's text") from None


def shown(hearth):
    """The text of a book."""
    # No number of a fact is above the next one.
    if hearth.coming > GREATEST_NUMBER:
        raise BadText("a number of more than nine figures")
    rows = [shown_land(hearth.land), f"{NEXT} {hearth.coming}"]
    rows.extend([f"{hearth.side_of(name)} {name}" for name in hearth.people()])
    rows.extend([f"{number} {kind} {one} {other}" for number, kind, one, other in hearth.kept()])
    return "\n".join(rows)


def read(text):
    """The book whose text it is."""
    try:
        return read_book(text.split("\n"))
    except KinError:
        raise BadText("no book's text") from None


def read_book(rows):
    """The book of some rows, told to it as by deeds, without anything that could be undone."""
    if len(rows) < 2:
        raise BadText("too few rows")
    book = Hearth(read_land(rows[0]))
    word, number = words_of(rows[1], 2)
    if word != NEXT:
        raise BadText(rows[1])
    read_facts(book, read_people(book, rows[2:]))
    skip_up_to(book, read_number(number))
    return book.twin()


def read_people(book, rows):
    """Tells a book the people that the first rows write; the rows behind these."""
    many = 0
    while many < len(rows) and rows[many].split(" ")[0] in (MAN, WOMAN):
        side, name = words_of(rows[many], 2)
        book.person(name, side)
        many += 1
    return rows[many:]


def read_facts(book, rows):
    """Tells a book the facts that rows write, by their numbers."""
    for row in rows:
        number, kind, one, other = words_of(row, 4)
        skip_up_to(book, read_number(number))
        tell_fact(book, kind, one, read_number(other) if kind == SAID else other)


def skip_up_to(book, number):
    """Lets a book's next number be this one, which must be above the numbers so far."""
    if number < book.coming:
        raise BadText(f"{number}")
    book.skip_to(number)


def words_of(row, many):
    """The words of a row, which must be so many."""
    words = row.split(" ")
    if len(words) != many:
        raise BadText(row)
    return words


def read_number(word):
    """The number that a word writes."""
    if not is_number(word):
        raise BadText(word)
    return int(word)
