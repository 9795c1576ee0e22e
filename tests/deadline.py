"""What is promised to be told soon must be told within some seconds."""

import contextlib
import signal


def too_late(number, frame):
    raise AssertionError("this was not told soon")


@contextlib.contextmanager
def soon(seconds=10):
    """Fails a test whose block is not done in time, where it would else run for ages."""
    before = signal.signal(signal.SIGALRM, too_late)
    signal.alarm(seconds)
    try:
        yield
    finally:
        signal.alarm(0)
        signal.signal(signal.SIGALRM, before)
