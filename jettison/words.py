"""Names, whole numbers and fractions as texts."""

from jettison.ratio import lowest

LETTERS = "abcdefghijklmnopqrstuvwxyz"
FIGURES = "0123456789"

# Python refuses to turn a number of some thousand figures into a text or back, so it is done group by group.
WIDTH = 64
GROUP = 10 ** 64


def is_name(text):
    """Whether a text is a name."""
    return 1 <= len(text) <= 8 and made_of(text, LETTERS)


def number(text):
    """The whole number that a text writes, or None."""
    if text == "" or not made_of(text, FIGURES):
        return None
    if text[0] == "0" and len(text) > 1:
        return None
    return value_of(text)


def ratio_text(a):
    """A fraction of at least nought as a text."""
    return f"{figures_of(a[0])}/{figures_of(a[1])}"


def ratio_of(text):
    """The fraction that a text writes, or None."""
    sides = text.split("/")
    if len(sides) != 2:
        return None
    top = number(sides[0])
    bottom = number(sides[1])
    if top is None or bottom is None or bottom == 0:
        return None
    if lowest(top, bottom) != (top, bottom):
        return None
    return (top, bottom)


def made_of(text, signs):
    """Whether each sign of a text is one of these."""
    return all([sign in signs for sign in text])


def value_of(figures):
    """The whole number of these figures, one or more."""
    head = len(figures) % WIDTH
    value = int("0" + figures[:head])
    for at in range(head, len(figures), WIDTH):
        value = value * GROUP + int(figures[at:at + WIDTH])
    return value


def figures_of(value):
    """A whole number of at least nought by figures."""
    groups = []
    while value >= GROUP:
        value, low = divmod(value, GROUP)
        groups.append(str(low).zfill(WIDTH))
    groups.append(str(value))
    return "".join(groups[::-1])
