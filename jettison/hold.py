"""The hold: its owners, the parts aboard, and the deeds that change worths and shares."""

from jettison.bottom import Bottom, factor_of_all
from jettison.errors import BadName, BadNumber, BadRows, NoOwner, NoPart, TooMuch, Twice
from jettison.words import is_name


class Part:
    """A part aboard.

    The top of an owner's share in it, over the hold's bottom, is the part's scale times the owner's number in its row,
    and to it what is common to all his shares. A cast or an award changes all shares of an owner alike, so it changes
    the scales and what is common, and no row.
    """

    def __init__(self, name, owner, worth, weight, scale, row):
        self.name = name
        self.owner = owner
        self.worth = worth
        self.weight = weight
        self.scale = scale
        self.row = list(row)

    def twin(self):
        """Another part like this one, that goes its own way."""
        return Part(self.name, self.owner, self.worth, self.weight, self.scale, self.row)


class Hold:
    """Owners in the order of their signing, and parts in the order of their loading."""

    def __init__(self):
        self.places = {}
        self.aboard = {}
        self.ashore = []
        self.names = {}
        self.bottom = Bottom()
        # Both are tops over the bottom, one for each owner: what is common to all his shares, and his purse.
        self.common = []
        self.purses = []

    def sign(self, owner):
        """A new owner, without a share in anything."""
        if not is_name(owner):
            raise BadName("an owner's name is none")
        if owner in self.places:
            raise Twice("the owner is signed already")
        self.places[owner] = len(self.places)
        self.common.append(0)
        self.purses.append(0)
        for part in self.aboard.values():
            part.row.append(0)

    def load(self, part, owner, worth, weight):
        """A new part, all of it its owner's."""
        self.check_new(part)
        place = self.place_of(owner)
        if worth < 1 or weight < 0:
            raise BadNumber("a worth is less than 1, or a weight less than 0")
        tops = [0] * len(self.places)
        tops[place] = self.bottom.product
        self.stow(Part(part, owner, worth, weight, 1, self.beyond_common(tops)))

    def cast(self, rows):
        """Give up these amounts of these parts at one moment; all bear it."""
        amounts = amounts_of(rows)
        for name, amount in amounts.items():
            check_loss(self.part_of(name).worth, amount)
        whole = self.whole()
        lost = sum(amounts.values())
        if lost >= whole:
            raise TooMuch("a cast of all that is aboard")
        self.blend(whole - lost, whole, self.given_up(amounts))
        for name, amount in amounts.items():
            self.lessen(name, amount)

    def award(self, owner, amount):
        """A reward to an owner; all bear it."""
        place = self.place_of(owner)
        check_amount(amount)
        whole = self.whole()
        if amount >= whole:
            raise TooMuch("an award of all that is aboard")
        added = [0] * len(self.places)
        added[place] = amount * self.bottom.product
        self.blend(whole - amount, whole, added)

    def mishap(self, part, amount):
        """A loss that those alone bear who have a share in the part."""
        check_loss(self.part_of(part).worth, amount)
        self.lessen(part, amount)

    def rise(self, part, amount):
        """A gain of those who have a share in the part."""
        risen = self.part_of(part)
        check_amount(amount)
        risen.worth += amount

    def hand(self, part, taker):
        """The share of the part's owner goes over to the taker, who is its owner then."""
        handed = self.part_of(part)
        to = self.place_of(taker)
        at = self.place_of(handed.owner)
        if to == at:
            return
        tops = self.tops_of(handed)
        tops[to] += tops[at]
        tops[at] = 0
        handed.owner = taker
        handed.scale = 1
        handed.row = self.beyond_common(tops)

    def land(self, part):
        """The part leaves the hold as it is."""
        leaving = self.part_of(part)
        self.ashore.append((leaving.name, leaving.owner, leaving.worth, self.shares(part)))
        gains = [purse + leaving.worth * top for purse, top in zip(self.purses, self.tops_of(leaving))]
        # The owner has the part itself, so he gives what it is worth beyond his own share.
        gains[self.place_of(leaving.owner)] -= leaving.worth * self.bottom.product
        self.purses = gains
        del self.aboard[part]

    def sever(self, part, name, amount, weight):
        """So much worth and weight of the part is a part by itself, with the same owner and shares."""
        source = self.part_of(part)
        self.check_new(name)
        if amount < 1 or weight < 0:
            raise BadNumber("an amount is less than 1, or a weight less than 0")
        if amount >= source.worth or weight > source.weight:
            raise TooMuch("more than the part can be without")
        source.worth -= amount
        source.weight -= weight
        self.stow(Part(name, source.owner, amount, weight, source.scale, source.row))

    def roster(self):
        """The owners."""
        return list(self.places)

    def parts(self):
        """Tuples (part, owner, worth, weight) of what is aboard."""
        return [(part.name, part.owner, part.worth, part.weight) for part in self.aboard.values()]

    def shares(self, part):
        """Tuples (owner, fraction) of those who have a share in the part."""
        tops = self.tops_of(self.part_of(part))
        return [(owner, self.bottom.share(top)) for owner, top in zip(self.places, tops) if top > 0]

    def whole(self):
        """The worth of all that is aboard."""
        return sum([part.worth for part in self.aboard.values()])

    def stake(self, owner):
        """What the owner has aboard."""
        return self.bottom.over(self.stake_top(self.place_of(owner)))

    def purse(self, owner):
        """What the landed parts bring the owner."""
        return self.bottom.over(self.purses[self.place_of(owner)])

    def fortune(self, owner):
        """The owner's stake, purse and landed parts together."""
        place = self.place_of(owner)
        landed = sum([worth for name, holder, worth, shares in self.ashore if holder == owner])
        return self.bottom.over(self.stake_top(place) + self.purses[place] + landed * self.bottom.product)

    def landed(self):
        """Tuples (part, owner, worth, shares) of what was landed."""
        return [(name, owner, worth, list(shares)) for name, owner, worth, shares in self.ashore]

    def twin(self):
        """Another hold like this one, that goes its own way."""
        other = Hold()
        other.places = dict(self.places)
        other.aboard = {name: part.twin() for name, part in self.aboard.items()}
        other.ashore = self.landed()
        other.names = dict(self.names)
        other.bottom = self.bottom.twin()
        other.common = list(self.common)
        other.purses = list(self.purses)
        return other

    def place_of(self, owner):
        """The owner's place in the roster, from 0."""
        if owner not in self.places:
            raise NoOwner("no such owner is signed")
        return self.places[owner]

    def part_of(self, name):
        """The part of that name that is aboard."""
        if name not in self.aboard:
            raise NoPart("no such part is aboard")
        return self.aboard[name]

    def check_new(self, name):
        """Refuse what can't be the name of a new part."""
        if not is_name(name):
            raise BadName("a part's name is none")
        if name in self.names:
            raise Twice("a part of that name was there already")

    def stow(self, part):
        """Put a new part behind those aboard."""
        self.aboard[part.name] = part
        self.names[part.name] = True

    def lessen(self, name, amount):
        """Take the amount from the part's worth; without worth it is gone."""
        part = self.aboard[name]
        part.worth -= amount
        if part.worth == 0:
            del self.aboard[name]

    def tops_of(self, part):
        """Each owner's top in the part."""
        return [part.scale * own + common for own, common in zip(part.row, self.common)]

    def beyond_common(self, tops):
        """The row of a part of the scale 1 in which the owners have these tops."""
        return [top - common for top, common in zip(tops, self.common)]

    def stake_top(self, place):
        """The top of the stake of the owner at the place."""
        own = sum([part.worth * part.scale * part.row[place] for part in self.aboard.values()])
        return own + self.whole() * self.common[place]

    def given_up(self, amounts):
        """For each owner the sum of his tops in these parts, each times its amount."""
        lost = sum(amounts.values())
        sums = [lost * common for common in self.common]
        for name, amount in amounts.items():
            part = self.aboard[name]
            many = amount * part.scale
            sums = [old + many * own for old, own in zip(sums, part.row)]
        return sums

    def blend(self, kept, whole, added):
        """Each share becomes so much of the whole as is kept of it, and to an owner's tops comes what is added."""
        scales = [part.scale * kept for part in self.aboard.values()]
        common = [top * kept + more for top, more in zip(self.common, added)]
        # Casts one behind the other come to one, so their steps needn't pile up.
        shared = factor_of_all(whole, scales + common)
        for part, scale in zip(self.aboard.values(), scales):
            part.scale = scale // shared
        self.common = [top // shared for top in common]
        self.purses = [purse * (whole // shared) for purse in self.purses]
        self.bottom.grow(whole // shared)


def fresh_hold(roster):
    """A hold without parts, on which these owners are signed."""
    hold = Hold()
    for owner in roster:
        hold.sign(owner)
    return hold


def amounts_of(rows):
    """The amount of each part that has a row."""
    amounts = {}
    for name, amount in rows:
        if name in amounts:
            raise BadRows("two rows of one part")
        amounts[name] = amount
    if len(amounts) == 0:
        raise BadRows("no rows")
    return amounts


def check_amount(amount):
    """Refuse an amount that is less than 1."""
    if amount < 1:
        raise BadNumber("an amount is less than 1")


def check_loss(most, amount):
    """Refuse an amount that is less than 1 or more than there is to take from."""
    check_amount(amount)
    if amount > most:
        raise TooMuch("more than there is to take from")
