"""Papers: walks over ties that show that somebody has not a section in any dealing."""

from kinhearth.facts import BACK, FORTH, SAID, is_tie, tie_step, tie_steps


def barring(land, kept, person):
    """For each section a paper that shows that the person has it not, or None where the person may have it."""
    steps = steps_from(land, kept)
    sayings = sayings_about(kept)
    return [paper_against(steps, sayings, person, section) for section in range(land.size)]


def steps_from(land, kept):
    """For each name the ties gone from there: rows of number, way, goal and turning."""
    steps = {}
    for start, letter, goal, number, way in tie_steps(kept):
        steps.setdefault(start, []).append((number, way, goal, land.step(letter)))
    return steps


def sayings_about(kept):
    """For each name the sayings about it: rows of number and section."""
    sayings = {}
    for number, kind, one, other in kept:
        if kind == SAID:
            sayings.setdefault(one, []).append((number, other))
    return sayings


def paper_against(steps, sayings, person, section):
    """A paper that shows that the person has not the section, or None where there is none."""
    # With the person's section each one whom ties join to it has just one, until something gainsays it.
    sections = {person: section}
    walks = {person: []}
    newest = [person]
    while newest:
        further = []
        for name in newest:
            end = gainsaid(sayings, name, sections[name])
            if end is not None:
                return (walks[name], end)
            for number, way, goal, turn in steps.get(name, []):
                walk = walks[name] + [(number, way)]
                if goal not in sections:
                    sections[goal] = turn[sections[name]]
                    walks[goal] = walk
                    further.append(goal)
                elif sections[goal] != turn[sections[name]]:
                    return (walk + turned_round(walks[goal]), None)
        newest = further
    return None


def gainsaid(sayings, name, section):
    """The number of a saying about a name that says another section, or None."""
    for number, said in sayings.get(name, []):
        if said != section:
            return number
    return None


def turned_round(walk):
    """The walk that goes the same ties back in turned order."""
    return [(number, -way) for number, way in walk[::-1]]


def stands(land, kept, person, section, paper):
    """Whether a paper shows by these facts that the person has not the section."""
    walk, end = paper
    facts = {fact[0]: fact for fact in kept}
    if section not in range(land.size) or not all_numbers(walk, end):
        return False
    name, led = person, section
    for number, way in walk:
        if not can_go(facts, name, number, way):
            return False
        start, letter, name = tie_step(facts[number], way)
        led = land.step(letter)[led]
    if end is None:
        return name == person and led != section
    return end in facts and facts[end][1] == SAID and facts[end][2] == name and facts[end][3] != led


def all_numbers(walk, end):
    """Whether neither True nor False stands in a paper: Python counts them as 1 and 0, but they are no numbers."""
    return not isinstance(end, bool) and not any([isinstance(number, bool) for step in walk for number in step])


def can_go(facts, name, number, way):
    """Whether a number is a tie's that leads on from a name in that way."""
    if way not in (FORTH, BACK) or number not in facts or not is_tie(facts[number][1]):
        return False
    start, letter, goal = tie_step(facts[number], way)
    return start == name
