"""A hold told word by word from the document, with Python's own fractions, for tests to hold the program against."""

import re
from fractions import Fraction

from jettison.errors import BadName, BadNumber, BadRows, NoOwner, NoPart, TooMuch, Twice


def pair(value):
    return (value.numerator, value.denominator)


def fraction(a):
    return Fraction(a[0], a[1])


def check(error, wrong):
    if wrong:
        raise error("plain")


def is_plain_name(text):
    return re.fullmatch("[a-z]{1,8}", text) is not None


class PlainHold:
    def __init__(self):
        self.owners = []
        self.rows = []  # dicts of what is aboard
        self.ever = []
        self.ashore = []

    def find(self, part):
        for row in self.rows:
            if row["part"] == part:
                return row
        raise NoPart("plain")

    def check_owner(self, owner):
        check(NoOwner, owner not in self.owners)

    def check_new(self, part):
        check(BadName, not is_plain_name(part))
        check(Twice, part in self.ever)

    def sweep(self):
        self.rows = [row for row in self.rows if row["worth"] > 0]

    def sign(self, owner):
        check(BadName, not is_plain_name(owner))
        check(Twice, owner in self.owners)
        self.owners.append(owner)

    def load(self, part, owner, worth, weight):
        self.check_new(part)
        self.check_owner(owner)
        check(BadNumber, worth < 1 or weight < 0)
        self.rows.append({"part": part, "owner": owner, "worth": worth, "weight": weight,
                          "shares": {owner: Fraction(1)}})
        self.ever.append(part)

    def cast(self, rows):
        check(BadRows, len(rows) == 0 or len({part for part, amount in rows}) < len(rows))
        for part, amount in rows:
            row = self.find(part)
            check(BadNumber, amount < 1)
            check(TooMuch, amount > row["worth"])
        whole, lost = self.whole(), sum(amount for part, amount in rows)
        check(TooMuch, lost >= whole)
        given = {owner: sum(Fraction(amount, whole) * self.find(part)["shares"].get(owner, 0)
                            for part, amount in rows) for owner in self.owners}
        for row in self.rows:
            row["shares"] = {owner: row["shares"].get(owner, 0) * Fraction(whole - lost, whole) + given[owner]
                             for owner in self.owners}
        for part, amount in rows:
            self.find(part)["worth"] -= amount
        self.sweep()

    def award(self, owner, amount):
        self.check_owner(owner)
        check(BadNumber, amount < 1)
        whole = self.whole()
        check(TooMuch, amount >= whole)
        for row in self.rows:
            row["shares"] = {each: row["shares"].get(each, 0) * Fraction(whole - amount, whole)
                             + (Fraction(amount, whole) if each == owner else 0) for each in self.owners}

    def mishap(self, part, amount):
        row = self.find(part)
        check(BadNumber, amount < 1)
        check(TooMuch, amount > row["worth"])
        row["worth"] -= amount
        self.sweep()

    def rise(self, part, amount):
        row = self.find(part)
        check(BadNumber, amount < 1)
        row["worth"] += amount

    def hand(self, part, taker):
        row = self.find(part)
        self.check_owner(taker)
        if taker != row["owner"]:
            moved = row["shares"].pop(row["owner"], Fraction(0))
            row["shares"][taker] = row["shares"].get(taker, 0) + moved
            row["owner"] = taker

    def land(self, part):
        row = self.find(part)
        self.rows.remove(row)
        self.ashore.append(row)

    def sever(self, part, name, amount, weight):
        row = self.find(part)
        self.check_new(name)
        check(BadNumber, amount < 1 or weight < 0)
        check(TooMuch, amount >= row["worth"] or weight > row["weight"])
        row["worth"] -= amount
        row["weight"] -= weight
        self.rows.append({"part": name, "owner": row["owner"], "worth": amount, "weight": weight,
                          "shares": dict(row["shares"])})
        self.ever.append(name)

    def roster(self):
        return list(self.owners)

    def parts(self):
        return [(row["part"], row["owner"], row["worth"], row["weight"]) for row in self.rows]

    def told(self, row):
        return [(owner, pair(row["shares"][owner])) for owner in self.owners if row["shares"].get(owner, 0) > 0]

    def shares(self, part):
        return self.told(self.find(part))

    def whole(self):
        return sum(row["worth"] for row in self.rows)

    def stake(self, owner):
        self.check_owner(owner)
        return pair(sum((row["worth"] * row["shares"].get(owner, 0) for row in self.rows), Fraction(0)))

    def purse(self, owner):
        self.check_owner(owner)
        purse = Fraction(0)
        for row in self.ashore:
            if row["owner"] == owner:
                purse -= sum(row["worth"] * share for each, share in row["shares"].items() if each != owner)
            else:
                purse += row["worth"] * row["shares"].get(owner, 0)
        return pair(purse)

    def fortune(self, owner):
        his = sum(row["worth"] for row in self.ashore if row["owner"] == owner)
        return pair(fraction(self.stake(owner)) + fraction(self.purse(owner)) + his)

    def landed(self):
        return [(row["part"], row["owner"], row["worth"], self.told(row)) for row in self.ashore]


def seen(hold):
    """All that a hold tells."""
    roster = hold.roster()
    return (
        roster, hold.parts(), [hold.shares(row[0]) for row in hold.parts()], hold.whole(),
        [hold.stake(owner) for owner in roster], [hold.purse(owner) for owner in roster],
        [hold.fortune(owner) for owner in roster], hold.landed(),
    )
