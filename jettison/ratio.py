"""Fractions: tuples (top, bottom) in lowest terms, the bottom at least 1."""


def common_factor(one, other):
    """The greatest whole number that goes into both, which are at least 0 and not both 0."""
    while other > 0:
        one, other = other, one % other
    return one


def lowest(top, bottom):
    """The fraction of two whole numbers, the bottom at least 1."""
    factor = common_factor(bottom, abs(top))
    return (top // factor, bottom // factor)


def plus(a, b):
    """The sum of two fractions."""
    factor = common_factor(a[1], b[1])
    left = a[1] // factor
    right = b[1] // factor
    # Both being in lowest terms, nothing else of the bottoms than their common factor can go into this top.
    rest = lowest(a[0] * right + b[0] * left, factor)
    return (rest[0], left * right * rest[1])


def minus(a, b):
    """The first fraction less the second one."""
    return plus(a, (-b[0], b[1]))


def times(a, b):
    """The product of two fractions."""
    # Both being in lowest terms, only the top of one and the bottom of the other can share a factor.
    falling = lowest(a[0], b[1])
    rising = lowest(b[0], a[1])
    return (falling[0] * rising[0], falling[1] * rising[1])


def scaled(a, many):
    """The fraction so many times."""
    return times(a, (many, 1))


def total(row):
    """The sum of a list of fractions."""
    # One common bottom for all, so that great sums are brought to lowest terms once, not at each step.
    bottom = 1
    for a in row:
        bottom = bottom // common_factor(bottom, a[1]) * a[1]
    return lowest(sum([a[0] * (bottom // a[1]) for a in row]), bottom)


def below(a, b):
    """Whether the first fraction is less than the second one."""
    return a[0] * b[1] < b[0] * a[1]


def floor_of(a):
    """The greatest whole number that isn't above the fraction."""
    return a[0] // a[1]
