"""The surveyor, who finds the first wrong entry."""

from jettison.deeds import perform
from jettison.errors import JettisonError
from jettison.hold import fresh_hold
from jettison.papers import stowed


def first_wrong(roster, entries):
    """The number of the first entry that isn't just what its deed comes to, or None."""
    hold = fresh_hold(roster)
    for at, (deed, whole, parts) in enumerate(entries):
        if not is_true(hold, deed, whole, parts):
            return at
    return None


def is_true(hold, deed, whole, parts):
    """Whether the hold lets the deed by, and then tells just these."""
    try:
        perform(hold, deed)
    except JettisonError:
        return False
    return whole == hold.whole() and parts == stowed(hold)
