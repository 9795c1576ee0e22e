"""Asks of a book: which sections are open, in how many dealings, and who hangs together."""

from kinhearth.checks import check_section


def open_of(hearth, name):
    """The sections that one has in some dealing, rising."""
    return hearth.joins().open_at(hearth.place_of(name))


def between(hearth, one, other):
    """All pairs of sections that two have in one dealing, rising."""
    return hearth.joins().pairs(hearth.place_of(one), hearth.place_of(other))


def dealings(hearth):
    """How many dealings keep all."""
    return hearth.joins().dealt()


def dealing(hearth, name, section):
    """A dealing that gives one a section, pairs (name, section) of all in their order; None where there is none."""
    place = hearth.place_of(name)
    check_section(hearth, section)
    if section not in open_of(hearth, name):
        return None
    joins = hearth.joins()
    # In each group one section settles all: the asked one's in its own, in any other the first one's least.
    settling = {joins.head_of(place): (place, section)}
    dealt = []
    for member in hearth.people():
        there = hearth.place_of(member)
        first, chosen = settling.setdefault(joins.head_of(there), (there, joins.open_at(there)[0]))
        dealt.append((member, dict(joins.pairs(first, there))[chosen]))
    return dealt


def groups(hearth):
    """Lists of the names of those whom rows of kept ties lead to one another."""
    joins = hearth.joins()
    found = {}
    for name in hearth.people():
        found.setdefault(joins.head_of(hearth.place_of(name)), []).append(name)
    return list(found.values())


def settled(hearth):
    """Pairs (name, section) of all to whom just one section is open."""
    pairs = []
    for name in hearth.people():
        sections = open_of(hearth, name)
        if len(sections) == 1:
            pairs.append((name, sections[0]))
    return pairs


def settlers(hearth):
    """The first ones of the groups in which more than one section is open to each."""
    firsts = [group[0] for group in groups(hearth)]
    return [name for name in firsts if len(open_of(hearth, name)) > 1]
