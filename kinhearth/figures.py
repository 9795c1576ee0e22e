"""Figures: numbers and sections as texts write them."""

FIGURES = "0123456789"
MOST_FIGURES = 9
GREATEST_NUMBER = 999999999


def is_figures(text):
    """Whether a text has nothing but figures, and one at least."""
    return text != "" and all([sign in FIGURES for sign in text])


def is_short_figures(text):
    """Whether a text is one to nine figures."""
    return len(text) <= MOST_FIGURES and is_figures(text)


def is_number(text):
    """Whether a text is a number of at most nine figures without noughts ahead."""
    return is_short_figures(text) and (text == "0" or text[0] != "0")


def sections_of(text):
    """The sections that a text of figures writes, one for each figure."""
    return tuple([int(sign) for sign in text])


def shown_sections(sections):
    """A text of sections, one figure for each."""
    return "".join([str(section) for section in sections])
