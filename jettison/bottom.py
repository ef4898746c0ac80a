"""One bottom for all shares of a hold, so that its deeds are reckoned in whole numbers."""

from jettison.ratio import common_factor


class Bottom:
    """A bottom that grows step by step, and the fractions over it."""

    def __init__(self):
        self.steps = []
        self.product = 1
        self.known = {}

    def grow(self, step):
        """Make the bottom so many times as great."""
        if step > 1:
            self.steps.append(step)
            self.product *= step
            self.known = {}

    def over(self, top):
        """The fraction of this top."""
        # A step is small beside the bottom, so step by step is much sooner done than the bottom at once.
        rest = self.product
        for step in self.steps:
            shared = common_factor(step, top % step)
            if shared > 1:
                top = top // shared
                rest = rest // shared
        return (top, rest)

    def share(self, top):
        """The fraction of a share's top."""
        # An owner has the same share in many parts.
        if top not in self.known:
            self.known[top] = self.over(top)
        return self.known[top]

    def twin(self):
        """Another bottom like this one, that goes its own way."""
        other = Bottom()
        other.steps = list(self.steps)
        other.product = self.product
        return other


def factor_of_all(step, tops):
    """The greatest whole number that goes into the step and into each of these numbers."""
    for top in tops:
        step = common_factor(top, step)
    return step
