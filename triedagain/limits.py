"""Limits, and what a run tells last: the same for all ways to run a program."""

from triedagain.errors import BadLimit, NoResult
from triedagain.shapes import is_integer
from triedagain.worths import told

MOST_STEPS = 100000


def check_limit(value, greatest=MOST_STEPS):
    if not is_integer(value) or not 1 <= value <= greatest:
        raise BadLimit()


def told_result(answer, result):
    """What the result is told as, where answer is what a run told last, or None."""
    if answer is None or answer[0] != "gave":
        raise NoResult()
    # Runs are never taken back, so the result is told as it is now: nothing has a past.
    return told(result, {}, 0)
