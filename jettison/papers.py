"""Papers: the account of a voyage, and rosters and entries as a text."""

from jettison.deeds import perform, read, shown
from jettison.errors import BadPaper, NoDeed
from jettison.hold import fresh_hold
from jettison.words import figures_of, is_name, number, ratio_of, ratio_text


def account(voyage):
    """The roster of a voyage, and an entry for each deed of its log."""
    roster = voyage.now().roster()
    hold = fresh_hold(roster)
    entries = []
    for deed in voyage.log():
        perform(hold, deed)
        entries.append((deed, hold.whole(), stowed(hold)))
    return (roster, entries)


def stowed(hold):
    """Tuples (part, owner, worth, weight, shares) of what is aboard."""
    return [(part, owner, worth, weight, hold.shares(part)) for part, owner, worth, weight in hold.parts()]


def written(roster, entries):
    """The paper of a roster and entries."""
    rows = [" ".join(["roster"] + roster)]
    for deed, whole, parts in entries:
        rows.append(f"deed {shown(deed)}")
        rows.append(f"whole {figures_of(whole)}")
        rows.extend([part_row(part) for part in parts])
    return "\n".join(rows)


def part_row(part):
    """The row of a part."""
    name, owner, worth, weight, shares = part
    words = ["part", name, owner, figures_of(worth), figures_of(weight)]
    for holder, share in shares:
        words.append(holder)
        words.append(ratio_text(share))
    return " ".join(words)


def read_paper(text):
    """The roster and the entries of a paper."""
    rows = [row.split(" ") for row in text.split("\n")]
    if rows[0][0] != "roster":
        raise BadPaper("the first row is no roster")
    roster = [name_of(word) for word in rows[0][1:]]
    # The same fractions stand in many rows, and great ones are slow to read.
    known = {}
    return (roster, [read_entry(group, known) for group in grouped(rows[1:])])


def grouped(rows):
    """The rows of each entry: a deed's, and those behind it up to the next one."""
    groups = []
    for row in rows:
        if row[0] == "deed":
            groups.append([])
        if len(groups) == 0:
            raise BadPaper("the first entry has no deed")
        groups[-1].append(row)
    return groups


def read_entry(rows, known):
    """The entry that these rows write."""
    if len(rows) < 2:
        raise BadPaper("a deed without its whole")
    return (read_deed(rows[0]), read_whole(rows[1]), [read_part(row, known) for row in rows[2:]])


def read_deed(row):
    """The deed of a row that begins with that word."""
    try:
        return read(" ".join(row[1:]))
    except NoDeed:
        raise BadPaper("a row writes no deed") from None


def read_whole(row):
    """The number of the row that tells the whole."""
    if row[0] != "whole" or len(row) != 2:
        raise BadPaper("no whole straight behind a deed")
    return number_of(row[1])


def read_part(row, known):
    """The part that a row writes, by the fractions that are known already."""
    if row[0] != "part" or len(row) < 5 or len(row) % 2 == 0:
        raise BadPaper("a row writes no part")
    shares = [(name_of(row[at]), share_of(row[at + 1], known)) for at in range(5, len(row), 2)]
    return (name_of(row[1]), name_of(row[2]), number_of(row[3]), number_of(row[4]), shares)


def name_of(word):
    """The name that a word of a paper is."""
    if not is_name(word):
        raise BadPaper("a name is none")
    return word


def number_of(word):
    """The whole number that a word of a paper writes."""
    value = number(word)
    if value is None:
        raise BadPaper("a word writes no whole number")
    return value


def share_of(word, known):
    """The fraction that a word of a paper writes."""
    if word not in known:
        share = ratio_of(word)
        if share is None:
            raise BadPaper("a word writes no fraction")
        known[word] = share
    return known[word]
