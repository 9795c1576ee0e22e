"""Roads: where letters and words lead by kept facts, and the forebears of one."""

from kinhearth.elders import lines_up
from kinhearth.facts import tie_steps
from kinhearth.terms import LETTERS, check_word


def called(hearth, name, word):
    """The names of those to whom a word leads, each once, in the order of coming."""
    check_word(word)
    hearth.place_of(name)
    steps = letter_steps(hearth.kept())
    names = [name]
    for letter in word:
        names = led_from(steps, names, letter)
    return sorted(names, key=hearth.place_of)


def letter_steps(kept):
    """For each name and letter the names of those to whom the letter leads."""
    steps = {}
    for start, letter, goal, number, way in tie_steps(kept):
        steps.setdefault((start, letter), []).append(goal)
    return steps


def led_from(steps, names, letter):
    """The names to which a letter leads from some names, each once."""
    found = {}
    for name in names:
        for goal in steps.get((name, letter), []):
            found[goal] = True
    return list(found)


def road(hearth, name, goal):
    """The least word that leads from one to the other, or None."""
    hearth.place_of(name)
    hearth.place_of(goal)
    return least_roads(letter_steps(hearth.kept()), name).get(goal)


def least_roads(steps, name):
    """For each one to whom words lead from a name the least such word."""
    words = {name: ""}
    # Those who have one word go on together: by the word's next letter any of them may come to somebody first.
    newest = [("", [name])]
    while newest:
        further = []
        for word, names in newest:
            for letter in LETTERS:
                goals = [goal for goal in led_from(steps, names, letter) if goal not in words]
                for goal in goals:
                    words[goal] = word + letter
                if goals:
                    further.append((word + letter, goals))
        newest = further
    return words


def forebears(hearth, name):
    """Pairs (name, steps) of all forebears, by rising steps, those of as many in the order of coming."""
    hearth.place_of(name)
    steps = steps_up(hearth, name)
    pairs = [(elder, steps[elder]) for elder in sorted(steps, key=hearth.place_of) if elder != name]
    return sorted(pairs, key=lambda pair: pair[1])


def nearest(hearth, one, other):
    """The names of those who are forebears of both and whose steps to both come to the least sum."""
    hearth.place_of(one)
    hearth.place_of(other)
    here = steps_up(hearth, one)
    there = steps_up(hearth, other)
    sums = {elder: here[elder] + there[elder] for elder in here if elder in there}
    if not sums:
        return []
    least = min(sums.values())
    return [elder for elder in sorted(sums, key=hearth.place_of) if sums[elder] == least]


def steps_up(hearth, name):
    """The steps from a name to each forebear, and none to itself."""
    return {elder: len(line) - 1 for elder, line in lines_up(hearth, name).items()}
