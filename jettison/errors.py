"""The refusals, one class for each."""


class JettisonError(ValueError):
    """Any refusal."""


class BadName(JettisonError):
    """A text that is to be a name is none."""


class Twice(JettisonError):
    """The name is taken already."""


class NoOwner(JettisonError):
    """No owner of that name is signed."""


class NoPart(JettisonError):
    """No part of that name is there."""


class NoVoyage(JettisonError):
    """The house has no voyage of that name."""


class BadNumber(JettisonError):
    """A number is less than it may be."""


class TooMuch(JettisonError):
    """A number is more than there is to take from."""


class BadRows(JettisonError):
    """A cast has no rows, or two rows of one part."""


class NoDeed(JettisonError):
    """There is no such deed, or it isn't sound."""


class BadPaper(JettisonError):
    """A text is no paper."""
