"""What several tests need: lands and books to try things in, plain counts over dealings and plain walks, all that a
book tells, and an end for what is promised to be told soon."""

import contextlib
import itertools
import random
import signal

from kinhearth import asks
from kinhearth.errors import KinError
from kinhearth.hearth import Hearth
from kinhearth.land import Land

FIFTY = 10 ** 49 + 12345678901234567

# Four sections in which both kinds of cousins are of the wife's section.
KARIERA = Land((2, 3, 0, 1), (3, 2, 1, 0), (1, 0, 3, 2))
# Three sections in a ring: a mother's are her child's, a man weds the next one.
RING = Land((0, 1, 2), (1, 2, 0), (1, 2, 0))
# No two of its three turnings are alike, and none is its own turning back.
CROOKED = Land((1, 2, 3, 4, 0), (2, 4, 3, 0, 1), (1, 3, 2, 4, 0))


def all_turns(size):
    """By rising numbers, as itertools tells them in the order of point 7."""
    return list(itertools.permutations(range(size)))


def all_lands(most):
    """Each land of the sizes from 2 to `most`, its turnings reckoned here."""
    lands = []
    for size in range(2, most + 1):
        for mother, wife in itertools.product(all_turns(size), repeat=2):
            lands.append(Land(mother, tuple(mother[wife[man]] for man in range(size)), wife))
    return lands


def great_lands():
    """A land of each size, with a ring of mothers and weddings that turn all round."""
    lands = []
    for size in range(2, 9):
        mother = tuple((at + 1) % size for at in range(size))
        wife = tuple(range(size))[::-1]
        lands.append(Land(mother, tuple(mother[at] for at in wife), wife))
    return lands

# By their sections anybody of one section may be tied to anybody of the same one.
STILL_LAND = Land((0, 1), (0, 1), (0, 1))

TIES = ["mother", "father", "wed", "sibling"]
SMALL_LETTERS = "abcdefghijklmnopqrstuvwxyz"

LANDS = all_lands(3) + all_lands(4)[::17] + great_lands() + [KARIERA, RING, CROOKED]


def too_late(number, frame):
    raise AssertionError("this was not told soon")


@contextlib.contextmanager
def soon(seconds=10):
    """Fails a test whose block is not done in time, where it would else run for ages."""
    before = signal.signal(signal.SIGALRM, too_late)
    signal.alarm(seconds)
    try:
        yield
    finally:
        signal.alarm(0)
        signal.signal(signal.SIGALRM, before)


def refusal(deed, *words):
    """The refusal that a call raises; fails where it raises none."""
    try:
        told = deed(*words)
    except KinError as raised:
        return raised
    raise AssertionError(f"{words} was not refused, but told {told!r}")


def refused_with(deed, *words):
    """The name of the very class that a call is refused with."""
    return type(refusal(deed, *words)).__name__


def done(hearth, deed):
    """What a deed, a row of a method's name and what is handed to it, tells, or the name of its refusal's class."""
    try:
        return getattr(hearth, deed[0])(*deed[1:])
    except KinError as raised:
        return type(raised).__name__


def filled(land, people="", facts=()):
    """A book of people, `ann/w bob/m` and so on, and of ties and sayings, by deeds."""
    hearth = Hearth(land)
    for one in people.split():
        name, side = one.split("/")
        hearth.person(name, {"m": "man", "w": "woman"}[side])
    for kind, one, other in facts:
        if kind == "said":
            hearth.say(one, other)
        else:
            hearth.tie(kind, one, other)
    return hearth


def next_number(hearth):
    """The number that the next fact would have, found out in a twin."""
    twin = hearth.twin()
    twin.person("thenextone", "man")
    return twin.say("thenextone", 0)


def contents(hearth):
    """All that a book tells, but for what can be undone and redone."""
    people = hearth.people()
    return (
        (hearth.land.mother, hearth.land.father, hearth.land.wife),
        [(name, hearth.side_of(name)) for name in people],
        hearth.kept(),
        next_number(hearth),
        [asks.open_of(hearth, name) for name in people],
        asks.dealings(hearth),
        asks.groups(hearth),
    )


def all_told(hearth):
    """All that a book tells."""
    return contents(hearth), hearth.undoable(), hearth.redoable()


def kept_by(land, dealing, fact):
    """Whether a dealing keeps a fact, by the words of points 1 and 11."""
    number, kind, one, other = fact
    if kind == "said":
        return dealing[one] == other
    if kind == "mother":
        return land.mother[dealing[other]] == dealing[one]
    if kind == "father":
        return land.father[dealing[other]] == dealing[one]
    if kind == "wed":
        return land.wife[dealing[one]] == dealing[other]
    return dealing[one] == dealing[other]


def all_dealings(land, people, facts):
    """Each dealing, a dict, that keeps all facts: a plain count."""
    found = []
    for sections in itertools.product(range(land.size), repeat=len(people)):
        dealt = dict(zip(people, sections))
        if all(kept_by(land, dealt, fact) for fact in facts):
            found.append(dealt)
    return found


def dealings_of(hearth):
    return all_dealings(hearth.land, hearth.people(), hearth.kept())


def joined_to(facts, person):
    """All whom rows of ties, gone either way, join to a person; a plain search."""
    found, many = {person}, 0
    while len(found) > many:
        many = len(found)
        for number, kind, one, other in facts:
            if kind != "said" and (one in found or other in found):
                found |= {one, other}
    return found


def led(turn, back, section):
    return turn.index(section) if back else turn[section]


def shows(land, facts, person, section, paper):
    """Whether a paper shows that a person has not a section, by the words of point 15."""
    walk, end = paper
    here, held = person, section
    for number, way in walk:
        rows = [fact for fact in facts if fact[0] == number and fact[1] != "said"]
        if len(rows) != 1 or way not in (1, -1):
            return False
        kind, one, other = rows[0][1:]
        if here != (one if way == 1 else other):
            return False
        # A mother's and a father's tie goes up from the child, against the land's own turning.
        if kind in ("mother", "father"):
            held = led(land.mother if kind == "mother" else land.father, way == 1, held)
        elif kind == "wed":
            held = led(land.wife, way == -1, held)
        here = other if way == 1 else one
    if end is None:
        return here == person and held != section
    return any(fact[:3] == (end, "said", here) and fact[3] != held for fact in facts)


class PlainBook:
    """A book by the words of points 11 to 16, with plain counts over all dealings and a list of kept states."""

    def __init__(self, land):
        self.land = land
        self.states = [((), (), 0)]
        self.at = 0

    def state(self):
        return self.states[self.at]

    def done(self, deed):
        """What a deed tells, or the name of the class with which it is refused."""
        if deed[0] in ("undo", "redo"):
            return self.moved(-1 if deed[0] == "undo" else 1)
        told = getattr(self, deed[0])(*deed[1:])
        if isinstance(told, str):
            return told
        self.states[self.at + 1:] = [told[0]]
        self.at += 1
        return told[1]

    def moved(self, by):
        if not 0 <= self.at + by < len(self.states):
            return "NothingLeft"
        self.at += by
        return None

    def person(self, name, side):
        people, facts, number = self.state()
        signs = all(sign in SMALL_LETTERS + "0123456789" for sign in name)
        if not (1 <= len(name) <= 12 and name[0] in SMALL_LETTERS and signs and side in ("man", "woman")):
            return "BadName"
        if name in dict(people):
            return "Taken"
        return (people + ((name, side),), facts, number), None

    def tie(self, kind, one, other):
        people, facts, number = self.state()
        sides = dict(people)
        if kind not in TIES:
            return "BadWord"
        if one not in sides or other not in sides:
            return "NoPerson"
        if (kind, sides[other]) in (("mother", "man"), ("father", "woman"), ("wed", "man")):
            return "WrongSide"
        if kind == "wed" and sides[one] == "woman":
            return "WrongSide"
        told = [fact[1:] for fact in facts]
        if (kind, one, other) in told or (kind == "sibling" and (one == other or (kind, other, one) in told)):
            return "Twice"
        if kind in ("mother", "father") and (kind, one) in [fact[:2] for fact in told]:
            return "Twice"
        if kind in ("mother", "father") and one in self.elders(other):
            return "OwnElder"
        return self.kept(kind, one, other)

    def elders(self, name):
        """All forebears of one, and that one."""
        facts = self.state()[1]
        found = [name]
        for one in found:
            found += [fact[3] for fact in facts if fact[1] in ("mother", "father") and fact[2] == one]
        return found

    def say(self, name, section):
        people, facts, number = self.state()
        if name not in dict(people):
            return "NoPerson"
        if not 0 <= section < self.land.size:
            return "NoSection"
        if ("said", name, section) in [fact[1:] for fact in facts]:
            return "Twice"
        return self.kept("said", name, section)

    def kept(self, kind, one, other):
        people, facts, number = self.state()
        more = facts + ((number, kind, one, other),)
        if not all_dealings(self.land, list(dict(people)), more):
            return "Barred"
        return (people, more, number + 1), number

    def take(self, number):
        people, facts, coming = self.state()
        if number not in [fact[0] for fact in facts]:
            return "NoFact"
        return (people, tuple(fact for fact in facts if fact[0] != number), coming), None

    def contents(self):
        """As `contents` tells a book."""
        people, facts, number = self.state()
        names = list(dict(people))
        dealt = all_dealings(self.land, names, facts)
        groups = [[one for one in names if one in joined_to(facts, name)] for name in names]
        return (
            (self.land.mother, self.land.father, self.land.wife),
            list(people),
            list(facts),
            number,
            [sorted({dealing[name] for dealing in dealt}) for name in names],
            len(dealt),
            [group for place, group in enumerate(groups) if group[0] == names[place]],
        )

    def all_told(self):
        return self.contents(), self.at, len(self.states) - 1 - self.at


def some_deed(chance, land, names, numbers):
    """A deed by chance over some names, some of which the book may lack, and some numbers of facts."""
    kind = chance.choice(TIES + TIES + TIES + ["said", "said", "take", "undo", "undo", "redo"])
    if kind in ("undo", "redo"):
        return (kind,)
    if kind == "take":
        return ("take", chance.choice(list(numbers) + [0, 1, 2]))
    if kind == "said":
        return ("say", chance.choice(names), chance.randrange(-1, land.size + 1))
    return ("tie", kind, chance.choice(names), chance.choice(names))


def small_books(lands):
    """Small books of chance, with what has been taken out and undone behind them."""
    books = []
    for number, land in enumerate(lands):
        chance = random.Random(number)
        hearth = filled(land, "eve/w bob/m ann/w dan/m" if land.size < 6 else "eve/w bob/m ann/w")
        for step in range(chance.choice([0, 2, 4, 8, 16])):
            done(hearth, some_deed(chance, land, hearth.people() or ["eve"], range(4)))
            if hearth.redoable() > 3:
                hearth.redo()
        books.append(hearth)
    return books


def great_book(land, seed, people=200, facts=400):
    """A book of so many people and facts, drawn by chance over a dealing that keeps them all, and that dealing."""
    # The book keeps whatever the dealing keeps: refused is what has nothing to do with dealings.
    chance = random.Random(seed)
    hearth = Hearth(land)
    dealt = {}
    for number in range(people):
        name = f"p{number}"
        hearth.person(name, chance.choice(["man", "woman"]))
        dealt[name] = chance.randrange(land.size)
    names = hearth.people()
    while len(hearth.kept()) < facts:
        kind = chance.choice(TIES + ["said"] * (chance.random() < 0.05))
        one = chance.choice(names)
        other = dealt[one] if kind == "said" else chance.choice(names)
        if kept_by(land, dealt, (0, kind, one, other)):
            if done(hearth, ("say", one, other) if kind == "said" else ("tie", kind, one, other)) == "Barred":
                raise AssertionError(f"{kind} {one} {other} was barred, but a dealing keeps all")
    return hearth, dealt
