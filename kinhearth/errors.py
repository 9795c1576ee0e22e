"""The refusals of the program, one class for each."""


class KinError(ValueError):
    """Any refusal: `word` tells which one, `why` goes into its text alone."""

    def __init__(self, word, why=""):
        ValueError.__init__(self, f"{word}: {why}" if why else word)
        self.word = word


class BadTurn(KinError):
    """A row that is no turning, or turnings of unlike sizes."""

    def __init__(self, why=""):
        KinError.__init__(self, "no turning", why)


class BadLand(KinError):
    """Rows that are no three turnings of one size from 2 to 8."""

    def __init__(self, why=""):
        KinError.__init__(self, "no land", why)


class Unequal(KinError):
    """A land in which a child has one section by its mother and another one by its father."""

    def __init__(self, section):
        KinError.__init__(self, "unequal parents", f"the children of a man of section {section}")
        self.section = section


class BadWord(KinError):
    """A text that is no word of kin, or no kind of tie."""

    def __init__(self, why=""):
        KinError.__init__(self, "no word", why)


class TooMany(KinError):
    """More turnings than were asked for."""

    def __init__(self, why=""):
        KinError.__init__(self, "too many", why)


class BadName(KinError):
    """A text that is no name, or no side."""

    def __init__(self, why=""):
        KinError.__init__(self, "no name", why)


class Taken(KinError):
    """A name that is there already."""

    def __init__(self, why=""):
        KinError.__init__(self, "name taken", why)


class NoPerson(KinError):
    """A name of nobody in the book."""

    def __init__(self, why=""):
        KinError.__init__(self, "no person", why)


class NoSection(KinError):
    """A number that is no section of the land."""

    def __init__(self, why=""):
        KinError.__init__(self, "no section", why)


class WrongSide(KinError):
    """A man where a woman is asked for, or a woman where a man is."""

    def __init__(self, why=""):
        KinError.__init__(self, "wrong side", why)


class Twice(KinError):
    """What was told already, or may be told but once."""

    def __init__(self, why=""):
        KinError.__init__(self, "told twice", why)


class OwnElder(KinError):
    """A tie by which somebody would be among their own forebears."""

    def __init__(self, line):
        KinError.__init__(self, "own elder")
        self.line = list(line)


class Barred(KinError):
    """A fact that leaves no dealing; `walks` has a paper for each section of `whom`."""

    def __init__(self, whom, walks):
        KinError.__init__(self, "barred", whom)
        self.whom = whom
        self.walks = [(list(walk), end) for walk, end in walks]


class NoFact(KinError):
    """A number under which no fact is kept."""

    def __init__(self, why=""):
        KinError.__init__(self, "no fact", why)


class NothingLeft(KinError):
    """Nothing is there to undo or to redo."""

    def __init__(self, why=""):
        KinError.__init__(self, "nothing left", why)


class UnlikeLands(KinError):
    """Two books whose lands have not the same turnings."""

    def __init__(self, why=""):
        KinError.__init__(self, "unlike lands", why)


class BadText(KinError):
    """A text that is not the text of what was asked for."""

    def __init__(self, why=""):
        KinError.__init__(self, "no text", why)


class NoBook(KinError):
    """A name of no book of the desk."""

    def __init__(self, why=""):
        KinError.__init__(self, "no book", why)
