"""Joining: a new book of two books, and a book of one group alone."""

from kinhearth.errors import Twice, UnlikeLands, WrongSide
from kinhearth.facts import is_tie, tell_fact
from kinhearth.hearth import Hearth
from kinhearth.land import alike_lands


def joined(one, other, same):
    """The new book of two, in which the pairs tell which one of the first is which one of the second."""
    if not alike_lands(one.land, other.land):
        raise UnlikeLands()
    names = paired_names(one, other, same)
    book = Hearth(one.land)
    tell_people(book, one, one.people())
    # A newcomer whose name the first book has is refused here, ahead of all facts.
    tell_people(book, other, [name for name in other.people() if name not in names])
    tell_facts(book, one.kept())
    tell_facts(book, [renamed_fact(fact, names) for fact in other.kept()])
    # A twin has the same in it, but nothing that could be undone.
    return book.twin()


def paired_names(one, other, same):
    """For each name of the second book that stands in a pair the one of the first book."""
    names = {}
    for here, there in same:
        sides = (one.side_of(here), other.side_of(there))
        if there in names or here in list(names.values()):
            raise Twice(f"{here} {there}")
        if sides[0] != sides[1]:
            raise WrongSide(f"{here} {there}")
        names[there] = here
    return names


def renamed_fact(fact, names):
    """A fact in which those who have another name stand by that one."""
    number, kind, one, other = fact
    return (number, kind, names.get(one, one), names.get(other, other) if is_tie(kind) else other)


def tell_people(book, hearth, names):
    """Tells a book some of the people of another one."""
    for name in names:
        book.person(name, hearth.side_of(name))


def tell_facts(book, facts):
    """Tells a book those facts that it has not already."""
    for number, kind, one, other in facts:
        if not book.has(kind, one, other):
            tell_fact(book, kind, one, other)


def group_book(hearth, name):
    """A new book with the people of one's group alone and the facts about them."""
    place = hearth.place_of(name)
    joins = hearth.joins()
    members = [one for one in hearth.people() if joins.together(place, hearth.place_of(one))]
    book = Hearth(hearth.land)
    tell_people(book, hearth, members)
    tell_facts(book, [fact for fact in hearth.kept() if fact[2] in members])
    return book.twin()
