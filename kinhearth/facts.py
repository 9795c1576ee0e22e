"""Facts: rows (number, kind, one, other), the ties and sayings that a book keeps."""

from kinhearth.errors import BadWord
from kinhearth.terms import WAYS_BACK

SAID = "said"
SIBLING = "sibling"
WED = "wed"
# The kinds of ties of which each one may have a single kept one.
PARENTS = ("mother", "father")
# For each kind of tie the letter that leads from its first one to its other one.
TIE_LETTERS = {"mother": "m", "father": "f", "wed": "w", "sibling": "s"}
# The ways in which a tie is gone: from its first one to its other one, and from that one to the first.
FORTH = 1
BACK = -1


def is_tie(kind):
    """Whether a text is a kind of tie."""
    return kind in TIE_LETTERS


def tie_turn(land, kind):
    """The turning of a kind of tie, from its first one to its other one."""
    if not is_tie(kind):
        raise BadWord(kind)
    return land.step(TIE_LETTERS[kind])


def tie_step(fact, way):
    """A tie gone one way: from whom, by which letter, to whom."""
    number, kind, one, other = fact
    letter = TIE_LETTERS[kind]
    return (one, letter, other) if way == FORTH else (other, WAYS_BACK[letter], one)


def tie_steps(kept):
    """All ties of some facts, each gone both ways: rows of from whom, letter, to whom, number and way."""
    steps = []
    for fact in kept:
        if is_tie(fact[1]):
            for way in (FORTH, BACK):
                start, letter, goal = tie_step(fact, way)
                steps.append((start, letter, goal, fact[0], way))
    return steps


def fact_key(kind, one, other):
    """A key that two facts have in common just where they are the same, whatever their numbers."""
    if kind == SIBLING:
        return (kind, min(one, other), max(one, other))
    return (kind, one, other)


def spoken_of(fact):
    """The names that a fact speaks of: its first one and, of a tie, its other one."""
    number, kind, one, other = fact
    return [one, other] if is_tie(kind) else [one]


def keep_fact(joins, land, places, fact):
    """Tells a fact to a `Joins` in which the names have these places; whether it is kept."""
    number, kind, one, other = fact
    if kind == SAID:
        return joins.say(places[one], other)
    return joins.tie(places[one], places[other], tie_turn(land, kind))


def fact_fits(joins, land, places, fact):
    """Whether a `Joins` in which the names have these places would keep a fact; nothing is changed."""
    number, kind, one, other = fact
    if kind == SAID:
        return other in joins.open_at(places[one])
    return joins.left(places[one], places[other], tie_turn(land, kind)) != []


def tell_fact(hearth, kind, one, other):
    """Tells a book a tie or a saying; its number."""
    if kind == SAID:
        return hearth.say(one, other)
    return hearth.tie(kind, one, other)
