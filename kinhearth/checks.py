"""What a book refuses of a deed, each in its order; what its dealings refuse is not among it."""

from kinhearth.elders import lines_up
from kinhearth.errors import BadName, BadWord, NoSection, OwnElder, Taken, Twice, WrongSide
from kinhearth.facts import PARENTS, SAID, SIBLING, is_tie

MAN = "man"
WOMAN = "woman"
LETTERS_OF_NAMES = "abcdefghijklmnopqrstuvwxyz"
SIGNS_OF_NAMES = "abcdefghijklmnopqrstuvwxyz0123456789"
LONGEST_NAME = 12


def is_name(text):
    """Whether a text is a name."""
    if text == "" or len(text) > LONGEST_NAME or text[0] not in LETTERS_OF_NAMES:
        return False
    return all([sign in SIGNS_OF_NAMES for sign in text])


def check_person(hearth, name, side):
    """Refuses one who can't come into the book."""
    if not is_name(name) or side not in (MAN, WOMAN):
        raise BadName(f"{side} {name}")
    if name in hearth.people():
        raise Taken(name)


def check_tie(hearth, kind, one, other):
    """Refuses a tie that the book can't keep, whatever its dealings."""
    if not is_tie(kind):
        raise BadWord(kind)
    if not sides_fit(kind, hearth.side_of(one), hearth.side_of(other)):
        raise WrongSide(f"{kind} {one} {other}")
    if told_already(hearth, kind, one, other):
        raise Twice(f"{kind} {one} {other}")
    if kind in PARENTS:
        check_elders(hearth, one, other)


def sides_fit(kind, here, there):
    """Whether a tie of a kind may lead from one of a side to one of a side."""
    if kind == "mother":
        return there == WOMAN
    if kind == "father":
        return there == MAN
    return kind == SIBLING or (here == MAN and there == WOMAN)


def told_already(hearth, kind, one, other):
    """Whether a tie may not be told again, or of one's own self, or of a second mother or father."""
    if kind in PARENTS:
        return hearth.parent_of(kind, one) is not None
    return hearth.has(kind, one, other) or (kind == SIBLING and one == other)


def check_elders(hearth, child, parent):
    """Refuses a mother or father who has the child among their own forebears, or is the child."""
    lines = lines_up(hearth, parent)
    if child in lines:
        raise OwnElder(lines[child])


def check_saying(hearth, name, section):
    """Refuses a saying that the book can't keep, whatever its dealings."""
    hearth.side_of(name)
    check_section(hearth, section)
    if hearth.has(SAID, name, section):
        raise Twice(f"{SAID} {name} {section}")


def check_section(hearth, section):
    """Refuses a number that is no section of the book's land."""
    if section not in range(hearth.land.size):
        raise NoSection(f"{section}")
