"""Turnings: tuples that lead each section to the number at the section's place."""

from kinhearth.errors import BadTurn


def is_turn(row):
    """Whether a row holds each number from nought to below its length just once."""
    # Python counts True as 1 and False as 0, but here they are no numbers.
    if any([isinstance(number, bool) for number in row]):
        return False
    return sorted(row) == list(range(len(row)))


def still(size):
    """The turning that leaves each section where it is."""
    return tuple(range(size))


def behind(first, then):
    """The turning that does `first` and then `then`."""
    check_turn(first)
    check_turn(then)
    if len(first) != len(then):
        raise BadTurn(f"the sizes {len(first)} and {len(then)} are unlike")
    return followed(first, then)


def followed(first, then):
    """As `behind`, of what is known to be two turnings of one size."""
    return tuple([then[section] for section in first])


def back(turn):
    """The turning that leads each section to the one that is led there."""
    check_turn(turn)
    return turned_back(turn)


def turned_back(turn):
    """As `back`, of what is known to be a turning."""
    return tuple([turn.index(section) for section in range(len(turn))])


def check_turn(row):
    """Refuses a row that is no turning."""
    if not is_turn(row):
        raise BadTurn(f"{row}")


def fixed(turn):
    """The sections that are led to themselves, rising."""
    return [section for section in range(len(turn)) if turn[section] == section]


def round_from(turn, first):
    """The round of a section, beginning with that section."""
    way = [first]
    while turn[way[-1]] != first:
        way.append(turn[way[-1]])
    return way


def rounds(turn):
    """All rounds, each beginning with its least section, by their first ones."""
    ways = [round_from(turn, section) for section in range(len(turn))]
    return [way for way in ways if way[0] == min(way)]


def order_of(turn):
    """How often the turning must be done, at least once, until all is where it was."""
    order = 1
    for way in rounds(turn):
        # Only a number that all rounds so far fit into can be the order.
        fitting = order
        while order % len(way) != 0:
            order += fitting
    return order


def times(turn, many):
    """The turning done many times over, below nought as many times back."""
    # Each section runs through its own round, so the rest by the round's length tells where it comes to.
    ways = [round_from(turn, section) for section in range(len(turn))]
    return tuple([way[many % len(way)] for way in ways])


def number_of(turn):
    """The place of a turning among all turnings of its size, from nought."""
    number = 0
    for place in range(len(turn)):
        lesser = [later for later in turn[place + 1:] if later < turn[place]]
        number = number * (len(turn) - place) + len(lesser)
    return number


def numbered(size, number):
    """The turning of a size that has a number."""
    if size < 0 or number < 0:
        raise BadTurn(f"size {size}, number {number}")
    # The last place has one section to choose from, the one ahead of it two, and so on.
    choices = []
    rest = number
    for many in range(1, size + 1):
        choices.append(rest % many)
        rest = rest // many
    if rest != 0:
        raise BadTurn(f"size {size}, number {number}")
    sections = list(range(size))
    turn = []
    for choice in reversed(choices):
        turn.append(sections.pop(choice))
    return tuple(turn)
