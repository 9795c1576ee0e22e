"""Suits: whether a book would keep a tie, and what the tie would leave."""

from kinhearth.checks import MAN, check_tie
from kinhearth.errors import OwnElder, Twice, WrongSide
from kinhearth.facts import WED, tie_turn


def may(hearth, kind, one, other):
    """Whether the book would keep the tie."""
    try:
        check_tie(hearth, kind, one, other)
    except (WrongSide, Twice, OwnElder):
        return False
    return left_to(hearth, kind, one, other) != []


def left_to(hearth, kind, one, other):
    """The sections open to `one` in the dealings that keep the tie's turning as well, rising."""
    turn = tie_turn(hearth.land, kind)
    return hearth.joins().left(hearth.place_of(one), hearth.place_of(other), turn)


def left_by(hearth, kind, one, other):
    """How many dealings keep the tie's turning as well."""
    turn = tie_turn(hearth.land, kind)
    return hearth.joins().dealt_with(hearth.place_of(one), hearth.place_of(other), turn)


def suits(hearth, name):
    """The names of all whom that one may wed."""
    if hearth.side_of(name) == MAN:
        return [other for other in hearth.people() if may(hearth, WED, name, other)]
    return [other for other in hearth.people() if may(hearth, WED, other, name)]
