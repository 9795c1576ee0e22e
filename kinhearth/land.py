"""Lands: how the sections of mothers, fathers, wives and children hang together."""

from kinhearth.errors import BadLand, BadWord, NoSection, Unequal
from kinhearth.turns import back, behind, is_turn, still, times

LEAST_SIZE = 2
MOST_SIZE = 8


class Land:
    """Three turnings of one size by which a child has one section by both its parents."""

    def __init__(self, mother, father, wife):
        check_rows([mother, father, wife])
        check_parents(mother, father, wife)
        self.size = len(mother)
        self.mother = mother
        self.father = father
        self.wife = wife
        self.steps = {
            "c": mother,
            "k": father,
            "w": wife,
            "m": back(mother),
            "f": back(father),
            "h": back(wife),
            "s": still(len(mother)),
        }

    def step(self, letter):
        """The turning of a letter."""
        if letter not in self.steps:
            raise BadWord(letter)
        return self.steps[letter]


def check_rows(rows):
    """Refuses rows that are no turnings of one size that a land may have."""
    size = len(rows[0])
    if size < LEAST_SIZE or size > MOST_SIZE:
        raise BadLand(f"size {size}")
    for row in rows:
        if len(row) != size or not is_turn(row):
            raise BadLand(f"{row}")


def check_parents(mother, father, wife):
    """Refuses turnings by which some child has not one section by both its parents."""
    by_mothers = behind(wife, mother)
    for section in range(len(father)):
        if by_mothers[section] != father[section]:
            raise Unequal(section)


def land_of(mother, wife):
    """The one land that has these two turnings."""
    check_rows([mother, wife])
    return Land(mother, behind(wife, mother), wife)


def alike_lands(one, other):
    """Whether two lands have the same three turnings."""
    return one.mother == other.mother and one.father == other.father and one.wife == other.wife


def renamed(land, turn):
    """The land in which each section is called what the turning leads it to."""
    # What is no turning of the land's size is refused where it meets the land's own turnings.
    return Land(carried(land.mother, turn), carried(land.father, turn), carried(land.wife, turn))


def carried(turn, names):
    """A turning over new names: from the new name to the old one, by the turning, and to the new one."""
    return behind(behind(back(names), turn), names)


def woman_line(land, section, many):
    """The section so many steps down from mother to daughter, below nought up."""
    return line_end(land, land.mother, section, many)


def man_line(land, section, many):
    """The section so many steps down from father to son, below nought up."""
    return line_end(land, land.father, section, many)


def line_end(land, turn, section, many):
    """The section to which a turning done many times leads a section of the land."""
    if section < 0 or section >= land.size:
        raise NoSection(f"{section}")
    return times(turn, many)[section]


def cousins(land):
    """The sections of men whose wives are as the mother's brother's daughter, and as the father's sister's."""
    mothers_side = behind(land.step("m"), land.step("k"))
    fathers_side = behind(land.step("f"), land.step("c"))
    return meetings(mothers_side, land.wife), meetings(fathers_side, land.wife)


def meetings(one, other):
    """The sections that two turnings lead to the same one, rising."""
    return [section for section in range(len(one)) if one[section] == other[section]]
