"""What several tests need: lands to try things in, and an end for what is promised to be told soon."""

import contextlib
import itertools
import signal

from kinhearth.land import Land

FIFTY = 10 ** 49 + 12345678901234567

# Four sections in which both kinds of cousins are of the wife's section.
KARIERA = Land((2, 3, 0, 1), (3, 2, 1, 0), (1, 0, 3, 2))
# Three sections in a ring: a mother's are her child's, a man weds the next one.
RING = Land((0, 1, 2), (1, 2, 0), (1, 2, 0))
# No two of its three turnings are alike, and none is its own turning back.
CROOKED = Land((1, 2, 3, 4, 0), (2, 4, 3, 0, 1), (1, 3, 2, 4, 0))


def all_turns(size):
    """By rising numbers, as itertools tells them in the order of point 7."""
    return list(itertools.permutations(range(size)))


def all_lands(most):
    """Each land of the sizes from 2 to `most`, its turnings reckoned here."""
    lands = []
    for size in range(2, most + 1):
        for mother, wife in itertools.product(all_turns(size), repeat=2):
            lands.append(Land(mother, tuple(mother[wife[man]] for man in range(size)), wife))
    return lands


def great_lands():
    """A land of each size, with a ring of mothers and weddings that turn all round."""
    lands = []
    for size in range(2, 9):
        mother = tuple((at + 1) % size for at in range(size))
        wife = tuple(range(size))[::-1]
        lands.append(Land(mother, tuple(mother[at] for at in wife), wife))
    return lands


LANDS = all_lands(3) + all_lands(4)[::17] + great_lands() + [KARIERA, RING, CROOKED]


def too_late(number, frame):
    raise AssertionError("this was not told soon")


@contextlib.contextmanager
def soon(seconds=10):
    """Fails a test whose block is not done in time, where it would else run for ages."""
    before = signal.signal(signal.SIGALRM, too_late)
    signal.alarm(seconds)
    try:
        yield
    finally:
        signal.alarm(0)
        signal.signal(signal.SIGALRM, before)
