"""Elders: lines of kept mothers and fathers."""


def lines_up(hearth, name):
    """For each one to whom kept mothers and fathers lead, and for oneself, a shortest line of names up to there."""
    lines = {name: [name]}
    newest = [name]
    while newest:
        further = []
        for one in newest:
            for parent in hearth.parents_of(one):
                if parent not in lines:
                    lines[parent] = lines[one] + [parent]
                    further.append(parent)
        newest = further
    return lines
