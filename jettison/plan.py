"""The least cast that lightens a hold."""


def lighten(hold, tons):
    """The names of the parts of least worth that weigh so many tons and aren't all aboard, or None."""
    parts = hold.parts()
    choices = [(0, 0, [])]
    for name, owner, worth, weight in parts:
        more = [(cost + worth, lifted + weight, names + [name]) for cost, lifted, names in choices]
        choices = worthwhile(choices + more)
    for cost, lifted, names in choices:
        # Every part is worth something, so all parts stand last here: no others weigh as much.
        if lifted >= tons and len(names) < len(parts):
            return names
    return None


def worthwhile(choices):
    """The choices that weigh more than each one that costs as much or less, by what they cost."""
    kept = []
    for choice in sorted(choices, key=lambda row: (row[0], -row[1])):
        if len(kept) == 0 or choice[1] > kept[-1][1]:
            kept.append(choice)
    return kept
