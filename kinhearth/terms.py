"""Words of kin: the turnings that they have in a land, and the least word of each turning."""

from kinhearth.errors import BadWord, TooMany
from kinhearth.turns import behind, still

# By the alphabet: so of words as long as one another the lesser one is come upon first.
LETTERS = "cfhkmsw"
WAYS_BACK = {"m": "c", "c": "m", "f": "k", "k": "f", "w": "h", "h": "w", "s": "s"}


def turn_of(land, word):
    """The turning of a word: those of its letters, one behind the other."""
    turn = still(land.size)
    for letter in word:
        turn = behind(turn, land.step(letter))
    return turn


def check_word(word):
    """Refuses a text that is no word of kin."""
    for letter in word:
        if letter not in WAYS_BACK:
            raise BadWord(letter)


def way_back(word):
    """The word that goes the same steps back in turned order."""
    check_word(word)
    return "".join([WAYS_BACK[letter] for letter in word[::-1]])


def alike(land, one, other):
    """Whether two words have one turning."""
    return turn_of(land, one) == turn_of(land, other)


def least_words(land, most):
    """For each turning that words have in the land, the least word that has it."""
    words = {}
    newest = {still(land.size): ""}
    while newest:
        words.update(newest)
        if len(words) > most:
            raise TooMany(f"more than {most}")
        newest = longer_words(land, words, newest)
    return words


def longer_words(land, words, newest):
    """The least words of turnings that have none yet, each with a letter more than the newest ones."""
    # A least word begins with a least word, and these come rising: so the first one found is the least.
    longer = {}
    for turn, word in newest.items():
        for letter in LETTERS:
            led = behind(turn, land.step(letter))
            if led not in words and led not in longer:
                longer[led] = word + letter
    return longer


def shortest(land, word, most):
    """The least word with the turning of a word."""
    turn = turn_of(land, word)
    return least_words(land, most)[turn]
