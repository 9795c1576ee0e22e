"""Joins: people by numbers, ties and sayings, and the sections that these leave open."""

from kinhearth.turns import followed, still, turned_back


class Joins:
    """Those who are together hang on one head: by the head's section each of them has just one section."""

    def __init__(self, size):
        self.size = size
        self.heads = []
        # For each one the turning from the head's section to its own.
        self.leads = []
        # For each head those who hang on it, and the head's sections that are open.
        self.members = {}
        self.free = {}

    def add(self):
        """One more, tied to nobody; its number."""
        number = len(self.heads)
        self.heads.append(number)
        self.leads.append(still(self.size))
        self.members[number] = [number]
        self.free[number] = list(range(self.size))
        return number

    def tie(self, one, other, turn):
        """Keeps a tie where a dealing is left; whether it is kept."""
        sections = self.left(one, other, turn)
        if not sections:
            return False
        if not self.together(one, other):
            self.bring_together(one, other, turn)
        self.narrow(one, sections)
        return True

    def say(self, one, section):
        """Keeps a saying where a dealing is left; whether it is kept."""
        if section not in self.open_at(one):
            return False
        self.narrow(one, [section])
        return True

    def open_at(self, one):
        """The open sections of one, rising."""
        lead = self.leads[one]
        return sorted([lead[section] for section in self.free[self.heads[one]]])

    def left(self, one, other, turn):
        """The sections that would be open to `one` if the tie were kept, rising."""
        return [first for first, second in self.pairs(one, other) if turn[first] == second]

    def together(self, one, other):
        """Whether a row of ties leads from the one to the other."""
        return self.heads[one] == self.heads[other]

    def head_of(self, one):
        """The one on whom all hang who are together with one: the same for each of them."""
        return self.heads[one]

    def pairs(self, one, other):
        """All pairs of sections that the two have in one dealing, rising."""
        if not self.together(one, other):
            return [(first, second) for first in self.open_at(one) for second in self.open_at(other)]
        here = self.leads[one]
        there = self.leads[other]
        return sorted([(here[section], there[section]) for section in self.free[self.heads[one]]])

    def dealt(self):
        """How many dealings keep all."""
        return self.dealt_beside([])

    def dealt_with(self, one, other, turn):
        """How many of the dealings keep the tie as well."""
        # With the tie the two are together: a section of `one` settles all who hang on either head.
        return len(self.left(one, other, turn)) * self.dealt_beside([self.heads[one], self.heads[other]])

    def dealt_beside(self, heads):
        """How many dealings there are of those who hang on other heads."""
        many = 1
        for head, sections in self.free.items():
            if head not in heads:
                many *= len(sections)
        return many

    def narrow(self, one, sections):
        """Leaves none but these sections open to one."""
        lead = self.leads[one]
        head = self.heads[one]
        self.free[head] = [section for section in self.free[head] if lead[section] in sections]

    def bring_together(self, one, other, turn):
        """Hangs all who are together with the one or with the other on one head."""
        # The fewer ones are moved: so nobody is moved often, however many there are.
        if len(self.members[self.heads[one]]) < len(self.members[self.heads[other]]):
            self.move(one, other, turned_back(turn))
        else:
            self.move(other, one, turn)

    def move(self, mover, stayer, turn):
        """Hangs all who are together with the mover on the stayer's head; the turning is from stayer to mover."""
        head = self.heads[stayer]
        old_head = self.heads[mover]
        to_mover = followed(self.leads[stayer], turn)
        to_old_head = followed(to_mover, turned_back(self.leads[mover]))
        moved = self.members.pop(old_head)
        self.free.pop(old_head)
        for number in moved:
            self.heads[number] = head
            self.leads[number] = followed(to_old_head, self.leads[number])
        self.members[head].extend(moved)
