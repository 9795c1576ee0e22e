"""Hearths: books of people, ties and sayings, whose deeds can be undone and redone."""

from kinhearth.checks import check_person, check_saying, check_tie
from kinhearth.errors import Barred, NoFact, NoPerson, NothingLeft
from kinhearth.facts import PARENTS, SAID, fact_fits, fact_key, keep_fact
from kinhearth.joins import Joins
from kinhearth.papers import barring

# A deed puts a row into the book, one in it (name, side) or a fact, or it takes a fact out.
PUT_IN = 1
TAKEN_OUT = -1


class Hearth:
    """A book: it keeps a fact just where some dealing is left that keeps all."""

    def __init__(self, land):
        self.land = land
        # By names, in the order of coming: nobody leaves but the last one, by an undoing.
        self.sides = {}
        self.places = {}
        # By numbers; the numbers by what the facts tell; and the kept parents by kind and child.
        self.facts = {}
        self.known = {}
        self.parents = {}
        self.coming = 0
        # Rows of way, row, and the next number ahead of the deed and behind it.
        self.done = []
        self.undone = []
        # A `Joins` can't forget anything: behind a taking out there is none until it is asked for.
        self.reckoned = None

    def person(self, name, side):
        """One more in the book."""
        check_person(self, name, side)
        self.do_deed(PUT_IN, (name, side), self.coming)

    def tie(self, kind, one, other):
        """Keeps a tie; its number."""
        check_tie(self, kind, one, other)
        return self.keep((self.coming, kind, one, other))

    def say(self, name, section):
        """Keeps a saying; its number."""
        check_saying(self, name, section)
        return self.keep((self.coming, SAID, name, section))

    def keep(self, fact):
        """Keeps a fact where a dealing is left; its number."""
        number, kind, one, other = fact
        if not fact_fits(self.joins(), self.land, self.places, fact):
            raise Barred(one, barring(self.land, self.kept() + [fact], one))
        self.do_deed(PUT_IN, fact, number + 1)
        return number

    def take(self, number):
        """Takes a fact out."""
        if number not in self.facts:
            raise NoFact(f"{number}")
        self.do_deed(TAKEN_OUT, self.facts[number], self.coming)

    def undo(self):
        """Leads back to what was ahead of the last deed."""
        if not self.done:
            raise NothingLeft("to undo")
        way, row, ahead, behind = self.done.pop()
        self.undone.append((way, row, ahead, behind))
        self.shift(-way, row, ahead)

    def redo(self):
        """Does again what was undone last."""
        if not self.undone:
            raise NothingLeft("to redo")
        way, row, ahead, behind = self.undone.pop()
        self.done.append((way, row, ahead, behind))
        self.shift(way, row, behind)

    def undoable(self):
        """How many times in a row one could undo."""
        return len(self.done)

    def redoable(self):
        """How many times in a row one could redo."""
        return len(self.undone)

    def people(self):
        """The names in the order of coming."""
        return list(self.sides)

    def side_of(self, name):
        """Whether one is a man or a woman."""
        if name not in self.sides:
            raise NoPerson(name)
        return self.sides[name]

    def kept(self):
        """All facts by rising numbers."""
        return [self.facts[number] for number in sorted(self.facts)]

    def has(self, kind, one, other):
        """Whether a fact is kept, of siblings in either order."""
        return fact_key(kind, one, other) in self.known

    def twin(self):
        """Another book with the same in it, in which nothing can be undone or redone."""
        other = Hearth(self.land)
        for name, side in self.sides.items():
            other.put_in((name, side))
        for fact in self.facts.values():
            other.put_in(fact)
        other.coming = self.coming
        return other

    def skip_to(self, number):
        """Lets the next fact have a number that is not below the one it would have had; no deed."""
        self.coming = number

    def place_of(self, name):
        """The place of one in the order of coming, which is the number in `joins` too."""
        if name not in self.places:
            raise NoPerson(name)
        return self.places[name]

    def parent_of(self, kind, name):
        """The kept mother or the kept father of one, or None."""
        return self.parents.get((kind, name))

    def parents_of(self, name):
        """The kept parents of one."""
        return [self.parents[(kind, name)] for kind in PARENTS if (kind, name) in self.parents]

    def joins(self):
        """The `Joins` of all in the book and of all kept facts; it is only asked, not changed."""
        if self.reckoned is None:
            self.reckoned = Joins(self.land.size)
            for name in self.sides:
                self.reckoned.add()
            for fact in self.facts.values():
                keep_fact(self.reckoned, self.land, self.places, fact)
        return self.reckoned

    def do_deed(self, way, row, coming):
        """Does a deed behind which the next number is the one told."""
        self.done.append((way, row, self.coming, coming))
        self.undone.clear()
        self.shift(way, row, coming)

    def shift(self, way, row, coming):
        """Puts a row in or takes it out, and sets the next number."""
        if way == PUT_IN:
            self.put_in(row)
        else:
            self.take_out(row)
        self.coming = coming

    def put_in(self, row):
        """Puts in one more or a fact."""
        if is_person(row):
            name, side = row
            self.places[name] = len(self.sides)
            self.sides[name] = side
            if self.reckoned is not None:
                self.reckoned.add()
        else:
            self.note_fact(row)
            if self.reckoned is not None:
                keep_fact(self.reckoned, self.land, self.places, row)

    def note_fact(self, fact):
        """Enters a fact under its number, and what it tells."""
        number, kind, one, other = fact
        self.facts[number] = fact
        self.known[fact_key(kind, one, other)] = number
        if kind in PARENTS:
            self.parents[(kind, one)] = other

    def take_out(self, row):
        """Takes out the last one or a fact."""
        if is_person(row):
            del self.sides[row[0]]
            del self.places[row[0]]
        else:
            number, kind, one, other = row
            del self.facts[number]
            del self.known[fact_key(kind, one, other)]
            if kind in PARENTS:
                del self.parents[(kind, one)]
        self.reckoned = None


def is_person(row):
    """Whether a row of a deed is one in the book, and no fact."""
    return len(row) == 2
