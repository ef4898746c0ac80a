"""Voyages: a hold, the log of its deeds, late news of them, and the coins that were moved."""

from jettison.deeds import perform, rows_of
from jettison.dues import payments
from jettison.errors import NoDeed, NoOwner, NoPart
from jettison.hold import Hold, check_loss, fresh_hold
from jettison.ratio import floor_of

# No owner is called so.
CHEST = ""


class Voyage:
    """A roster, a log of deeds, and the hold that they come to."""

    def __init__(self):
        self.hold = Hold()
        self.deeds = []
        # What all settlings brought each owner: no late news change it, so it isn't reckoned from the log.
        self.coins = {}

    def sign(self, owner):
        """A new owner, the last of the roster."""
        self.hold.sign(owner)
        self.coins[owner] = 0

    def do(self, deed):
        """Perform a deed; its number in the log."""
        perform(self.hold, deed)
        self.deeds.append(deed)
        return len(self.deeds) - 1

    def log(self):
        """The deeds."""
        return list(self.deeds)

    def now(self):
        """A twin of the hold as it stands."""
        return self.hold.twin()

    def amend(self, at, deed):
        """The deed of this number was in truth another one."""
        self.check_number(at)
        self.reckon(self.deeds[:at] + [deed] + self.deeds[at + 1:])

    def put_in(self, at, deed):
        """A deed came ahead of the one of this number, or is the last."""
        if at != len(self.deeds):
            self.check_number(at)
        self.reckon(self.deeds[:at] + [deed] + self.deeds[at:])

    def strike(self, at):
        """The deed of this number never was."""
        self.check_number(at)
        self.reckon(self.deeds[:at] + self.deeds[at + 1:])

    def undo(self):
        """The last deed never was."""
        self.strike(len(self.deeds) - 1)

    def found(self, at, part, amount):
        """Of what the cast of this number gave up of the part, so much came back."""
        self.check_number(at)
        self.amend(at, lessened(self.deeds[at], part, amount))

    def settle(self):
        """Move whole coins until each owner has what his purse now tells; the payments."""
        changes = [(owner, floor_of(self.hold.purse(owner)) - had) for owner, had in self.coins.items()]
        rest = -sum([coins for owner, coins in changes])
        for owner, coins in changes:
            self.coins[owner] += coins
        return payments(changes + [(CHEST, rest)])

    def moved(self, owner):
        """The coins that all settlings brought the owner."""
        if owner not in self.coins:
            raise NoOwner("no such owner is signed")
        return self.coins[owner]

    def chest(self):
        """The coins in the chest."""
        return -sum(self.coins.values())

    def twin(self):
        """Another voyage like this one, that goes its own way."""
        other = Voyage()
        other.hold = self.now()
        other.deeds = self.log()
        other.coins = dict(self.coins)
        return other

    def check_number(self, at):
        """Refuse what is no number of a deed in the log."""
        if at < 0 or at >= len(self.deeds):
            raise NoDeed("no deed of that number")

    def reckon(self, deeds):
        """Put these deeds in the log's place, if a fresh hold lets them all by."""
        hold = fresh_hold(self.hold.roster())
        for deed in deeds:
            perform(hold, deed)
        self.hold = hold
        self.deeds = deeds


def lessened(deed, part, amount):
    """The cast without so much of the part."""
    if deed[0] != "cast":
        raise NoDeed("the deed is no cast")
    amounts = dict(rows_of(deed))
    if part not in amounts:
        raise NoPart("the cast has no row of the part")
    check_loss(amounts[part], amount)
    amounts[part] -= amount
    things = [thing for name, left in amounts.items() if left > 0 for thing in (name, left)]
    if len(things) == 0:
        return ("still",)
    return tuple(["cast"] + things)
