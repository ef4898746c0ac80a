"""The table of shares: a row for each part, and in each row a fraction for each owner."""

from jettison.ratio import lowest, plus, scaled, times, total


def stakes(rows, worths, many):
    """The stake of each of so many owners, in their order."""
    return [weighed(rows, worths, place) for place in range(many)]


def mix(rows, worths, amounts):
    """The new table behind a cast of these amounts."""
    whole = sum(worths)
    kept = lowest(whole - sum(amounts), whole)
    columns = []
    for place in range(len(rows[0])):
        borne = times(weighed(rows, amounts, place), (1, whole))
        columns.append(blended(rows, place, kept, borne))
    return turned(columns, len(rows))


def gift(rows, worths, place, amount):
    """The new table behind a gift of the amount to the owner at the place."""
    whole = sum(worths)
    kept = lowest(whole - amount, whole)
    reward = lowest(amount, whole)
    columns = []
    for at in range(len(rows[0])):
        columns.append(blended(rows, at, kept, reward if at == place else (0, 1)))
    return turned(columns, len(rows))


def weighed(rows, numbers, place):
    """The sum of each row's fraction at the place times that row's number."""
    return total([scaled(row[place], many) for row, many in zip(rows, numbers)])


def blended(rows, place, kept, added):
    """Each row's fraction at the place, times what is kept of it, and to it what is added."""
    # An owner has the same fraction in many parts, and great fractions are slow to reckon.
    known = {}
    for row in rows:
        if row[place] not in known:
            known[row[place]] = plus(times(row[place], kept), added)
    return [known[row[place]] for row in rows]


def turned(columns, many):
    """The table of so many rows that has these columns."""
    return [[column[at] for column in columns] for at in range(many)]
