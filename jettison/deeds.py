"""Deeds as things: tuples of a word and what it needs."""

from jettison.errors import NoDeed
from jettison.words import is_name, number

MOST = 10 ** 9

# What stands behind each word but cast, whose pairs may be many.
FORMS = {
    "load": ("name", "name", "amount", "weight"),
    "award": ("name", "amount"),
    "mishap": ("name", "amount"),
    "rise": ("name", "amount"),
    "hand": ("name", "name"),
    "land": ("name",),
    "sever": ("name", "name", "amount", "weight"),
    "still": (),
}
PAIR = ("name", "amount")


def sound(deed):
    """Whether a deed is made as its word asks."""
    if deed[0] == "cast":
        form = PAIR * max(1, len(deed) // 2)
    elif deed[0] in FORMS:
        form = FORMS[deed[0]]
    else:
        return False
    things = deed[1:]
    return len(things) == len(form) and all([fits(thing, kind) for thing, kind in zip(things, form)])


def fits(thing, kind):
    """Whether a thing is of the kind that a deed has at its place."""
    if kind == "name":
        return isinstance(thing, str) and is_name(thing)
    least = 1 if kind == "amount" else 0
    return isinstance(thing, int) and least <= thing <= MOST


def perform(hold, deed):
    """Do on the hold what the deed's word says."""
    if not sound(deed):
        raise NoDeed("a deed that isn't sound")
    word = deed[0]
    if word == "load":
        hold.load(deed[1], deed[2], deed[3], deed[4])
    elif word == "cast":
        hold.cast(rows_of(deed))
    elif word == "award":
        hold.award(deed[1], deed[2])
    elif word == "mishap":
        hold.mishap(deed[1], deed[2])
    elif word == "rise":
        hold.rise(deed[1], deed[2])
    elif word == "hand":
        hold.hand(deed[1], deed[2])
    elif word == "land":
        hold.land(deed[1])
    elif word == "sever":
        hold.sever(deed[1], deed[2], deed[3], deed[4])


def rows_of(deed):
    """The rows of a cast."""
    return [(deed[at], deed[at + 1]) for at in range(1, len(deed), 2)]


def shown(deed):
    """A sound deed as a text."""
    return " ".join([str(thing) for thing in deed])


def read(text):
    """The sound deed that a text writes."""
    words = text.split(" ")
    deed = tuple(words[:1] + [thing_of(word) for word in words[1:]])
    if not sound(deed):
        raise NoDeed("a text that writes no sound deed")
    return deed


def thing_of(word):
    """What a word behind a deed's first one writes: a whole number, or else itself."""
    value = number(word)
    return word if value is None else value
