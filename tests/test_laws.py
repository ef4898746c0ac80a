"""Holds against the plain one of plain.py, and what follows from the points (point 10)."""

import itertools
import random
import time
import unittest
from fractions import Fraction

from jettison.hold import Hold
from plain import OWNERS, PARTS, PlainHold, fraction, letters, outcome, seen


def drawn_deed(chance, hold):
    """A deed for the hold as it stands, now and then a wrong one."""
    aboard = hold.parts()
    part, owner, worth, weight = chance.choice(aboard) if aboard else ("tea", "ann", 5, 5)
    amount = chance.choice([1, worth, worth + 1, 0, chance.randint(1, worth), max(1, worth // 3)])
    taker = chance.choice(OWNERS)
    fresh = chance.choice(PARTS)
    word = chance.choice("sign load load cast cast cast award award mishap rise hand hand land sever".split())
    if word == "sign":
        return (word, taker)
    if word == "load":
        return (word, fresh, taker, chance.randint(0, 60), chance.randint(-1, 9))
    if word == "cast":
        rows = chance.sample(aboard, chance.randint(0, min(3, len(aboard))))
        cast = [(row[0], chance.choice([1, row[2], max(1, row[2] // 2), chance.randint(1, row[2])])) for row in rows]
        return (word, cast + ([(fresh, amount)] if chance.random() < 0.1 else []))
    if word == "award":
        return (word, taker, chance.choice([amount, hold.whole(), max(1, hold.whole() - 1)]))
    if word in ("mishap", "rise"):
        return (word, chance.choice([part, part, fresh]), amount)
    if word == "hand":
        return (word, part, taker)
    if word == "land":
        return (word, part if chance.random() < 0.4 else fresh)
    return (word, part, fresh, amount, chance.randint(-1, weight + 1))


class DrawnTest(unittest.TestCase):
    def sums(self, hold):
        """Stakes come to V, fortunes to V and the worths of all landed parts, purses to nought, each row to one."""
        roster = hold.roster()
        landed = sum(row[2] for row in hold.landed())
        self.assertEqual(sum(fraction(hold.stake(owner)) for owner in roster), hold.whole())
        self.assertEqual(sum(fraction(hold.fortune(owner)) for owner in roster), hold.whole() + landed)
        self.assertEqual(sum(fraction(hold.purse(owner)) for owner in roster), 0)
        for shares in [hold.shares(row[0]) for row in hold.parts()] + [row[3] for row in hold.landed()]:
            self.assertEqual(sum(fraction(share) for owner, share in shares), 1)
            self.assertTrue(all(share[0] > 0 for owner, share in shares))
        self.assertTrue(all(hold.stake(owner)[0] >= 0 for owner in roster))

    def test_against_the_plain_hold(self):
        for seed in range(120):
            chance = random.Random(seed)
            hold, plain = Hold(), PlainHold()
            for owner in chance.sample(OWNERS, chance.randint(1, 4)):
                hold.sign(owner)
                plain.sign(owner)
            for at in range(45):
                deed = drawn_deed(chance, plain)
                self.assertEqual(outcome(hold, deed), outcome(plain, deed), (seed, at, deed))
                self.assertEqual(seen(hold), seen(plain), (seed, at, deed))
            self.sums(hold)

    def test_each_refusal_and_each_deed_is_drawn(self):
        found = set()
        for seed in range(60):
            chance = random.Random(seed)
            plain = PlainHold()
            for owner in OWNERS[:3]:
                plain.sign(owner)
            for at in range(45):
                deed = drawn_deed(chance, plain)
                told = outcome(plain, deed)
                found.add((deed[0], told.__name__ if told else "done"))
        for row in ("sign done Twice", "load done Twice NoOwner BadNumber", "land done NoPart", "hand done NoOwner",
                    "cast done BadRows NoPart TooMuch", "award done NoOwner BadNumber TooMuch", "rise done BadNumber",
                    "mishap done NoPart BadNumber TooMuch", "sever done Twice BadNumber TooMuch"):
            word, *outcomes = row.split()
            for told in outcomes:
                self.assertIn((word, told), found)


def drawn_hold(chance, many=4):
    """A hold with several parts in which several owners have shares."""
    hold = Hold()
    for owner in OWNERS[:4]:
        hold.sign(owner)
    for part in PARTS[:many]:
        hold.load(part, chance.choice(OWNERS[:4]), chance.randint(10, 90), chance.randint(0, 9))
    hold.award(chance.choice(OWNERS[:4]), chance.randint(1, 20))
    hold.hand(PARTS[0], chance.choice(OWNERS[:4]))
    hold.cast([(PARTS[1], 3), (PARTS[2], 4)])
    return hold


def shares_of(hold):
    return {row[0]: hold.shares(row[0]) for row in hold.parts()}


def stakes_of(hold):
    return [hold.stake(owner) for owner in hold.roster()]


def fortunes_of(hold):
    return [hold.fortune(owner) for owner in hold.roster()]


class CastsTest(unittest.TestCase):
    def test_the_same_part_is_taken_from_every_stake(self):
        for seed in range(30):
            chance = random.Random(seed)
            hold = drawn_hold(chance)
            ahead, whole = stakes_of(hold), hold.whole()
            rows = [(part, chance.randint(1, worth)) for part, owner, worth, weight in hold.parts()[1:]]
            hold.cast(rows)
            lost = sum(amount for part, amount in rows)
            for told, was in zip(stakes_of(hold), ahead):
                self.assertEqual(fraction(told), fraction(was) * Fraction(whole - lost, whole))

    def test_it_does_not_matter_whose_parts_were_cast(self):
        for seed in range(10):
            hold = drawn_hold(random.Random(seed))
            found = {}
            amounts = [range(0, min(row[2], 4) + 1) for row in hold.parts()]
            for row in itertools.product(*amounts):
                rows = [(part[0], amount) for part, amount in zip(hold.parts(), row) if amount > 0]
                if rows:
                    other = hold.twin()
                    other.cast(rows)
                    told = stakes_of(other)
                    self.assertEqual(told, found.setdefault(sum(row), told))

    def test_several_casts_in_any_order_come_to_one(self):
        for seed in range(12):
            chance = random.Random(seed)
            hold = drawn_hold(chance)
            casts = []
            for at in range(4):
                rows = chance.sample(hold.parts(), chance.randint(1, 3))
                casts.append([(row[0], chance.randint(1, row[2] // 5 + 1)) for row in rows])
            together = {}
            for part, amount in itertools.chain(*casts):
                together[part] = together.get(part, 0) + amount
            one = hold.twin()
            one.cast(list(together.items()))
            for order in itertools.permutations(casts):
                other = hold.twin()
                for rows in order:
                    other.cast(rows)
                self.assertEqual(seen(other), seen(one))

    def test_one_behind_the_other_until_parts_are_gone(self):
        hold = drawn_hold(random.Random(3))
        one = hold.twin()
        last = hold.parts()[-1]
        together = [(part, worth) for part, owner, worth, weight in hold.parts()[:-1]] + [(last[0], last[2] - 1)]
        for part, amount in together:
            for at in range(amount):
                hold.cast([(part, 1)])
        one.cast(together)
        self.assertEqual(hold.parts(), [last[:2] + (1, last[3])])
        self.assertEqual(seen(hold), seen(one))


class SeverTest(unittest.TestCase):
    """A part severed or not, and then the same done to its pieces together."""

    def both(self, seed):
        chance = random.Random(seed)
        hold = drawn_hold(chance)
        part, owner, worth, weight = chance.choice([row for row in hold.parts() if row[2] > 8])
        cut = chance.randint(3, worth - 3)
        pieces = hold.twin()
        pieces.sever(part, "piece", cut, chance.randint(0, weight))
        return chance, hold, pieces, part, cut, worth - cut

    def same(self, hold, pieces):
        self.assertEqual(stakes_of(pieces), stakes_of(hold))
        self.assertEqual(fortunes_of(pieces), fortunes_of(hold))
        self.assertEqual(pieces.whole(), hold.whole())

    def test_severed(self):
        for seed in range(30):
            chance, hold, pieces, part, piece, rest = self.both(seed)
            self.same(hold, pieces)

    def test_cast_and_mishap(self):
        for seed in range(30):
            for word in ("cast", "mishap"):
                chance, hold, pieces, part, piece, rest = self.both(seed)
                one, other = chance.randint(1, rest), chance.randint(1, piece)
                if word == "cast":
                    hold.cast([(part, one + other)])
                    pieces.cast([(part, one), ("piece", other)])
                else:
                    hold.mishap(part, one + other)
                    pieces.mishap(part, one)
                    pieces.mishap("piece", other)
                self.same(hold, pieces)
                hold.award("ann", 5)
                pieces.award("ann", 5)
                self.same(hold, pieces)

    def test_hand_rise_and_land(self):
        for seed in range(30):
            chance, hold, pieces, part, piece, rest = self.both(seed)
            taker = chance.choice(OWNERS[:4])
            hold.hand(part, taker)
            pieces.hand(part, taker)
            pieces.hand("piece", taker)
            self.same(hold, pieces)
            hold.rise(part, 9)
            pieces.rise(part, 4)
            pieces.rise("piece", 5)
            self.same(hold, pieces)
            hold.land(part)
            pieces.land("piece")
            pieces.land(part)
            self.same(hold, pieces)
            for owner in hold.roster():
                self.assertEqual(pieces.purse(owner), hold.purse(owner))


class ScaleTest(unittest.TestCase):
    def test_all_worths_and_amounts_so_many_times_as_great(self):
        for seed in range(20):
            for many in (2, 12, 10 ** 6 + 3):
                holds = []
                for factor in (1, many):
                    chance = random.Random(seed)
                    hold = Hold()
                    for owner in OWNERS:
                        hold.sign(owner)
                    for part in PARTS[:5]:
                        hold.load(part, chance.choice(OWNERS), chance.randint(20, 90) * factor, 1)
                    hold.cast([("tea", 7 * factor), ("oak", 2 * factor)])
                    hold.award("bob", 11 * factor)
                    hold.mishap("silk", 3 * factor)
                    hold.hand("rum", "eve")
                    hold.sever("tea", "cup", 4 * factor, 0)
                    hold.rise("rum", 5 * factor)
                    hold.cast([("rum", 9 * factor)])
                    hold.land("rye")
                    holds.append(hold)
                small, great = holds
                self.assertEqual(shares_of(great), shares_of(small))
                self.assertEqual([row[3] for row in great.landed()], [row[3] for row in small.landed()])
                for told, was in zip(stakes_of(great) + fortunes_of(great), stakes_of(small) + fortunes_of(small)):
                    self.assertEqual(fraction(told), many * fraction(was))


class GreatHoldTest(unittest.TestCase):
    """Point 2: a hold of 40 owners and 60 parts is to be reckoned, too."""

    def great(self, worth):
        chance = random.Random(7)
        hold = Hold()
        for at in range(40):
            hold.sign(letters(at))
        for at in range(60):
            hold.load(letters(at), letters(chance.randrange(40)), worth - chance.randrange(worth // 2), at)
        return chance, hold

    def come_to_the_whole(self, hold):
        roster = hold.roster()
        landed = sum(row[2] for row in hold.landed())
        self.assertEqual(sum(fraction(hold.stake(owner)) for owner in roster), hold.whole())
        self.assertEqual(sum(fraction(hold.purse(owner)) for owner in roster), 0)
        self.assertEqual(sum(fraction(hold.fortune(owner)) for owner in roster), hold.whole() + landed)
        for shares in [hold.shares(row[0]) for row in hold.parts()] + [row[3] for row in hold.landed()]:
            self.assertEqual(sum(fraction(share) for owner, share in shares), 1)

    def test_many_casts_and_awards(self):
        began = time.monotonic()
        chance, hold = self.great(10 ** 12)
        for at in range(150):
            rows = chance.sample(hold.parts(), 10)
            hold.cast([(row[0], chance.randint(1, row[2] // 30)) for row in rows])
            hold.award(letters(chance.randrange(40)), chance.randint(1, hold.whole() // 50))
        self.come_to_the_whole(hold)
        for at in range(0, 60, 2):
            hold.land(letters(at))
        self.come_to_the_whole(hold)
        self.assertLess(time.monotonic() - began, 10)

    def test_many_casts_alone_come_to_one(self):
        began = time.monotonic()
        chance, hold = self.great(10 ** 12)
        one = hold.twin()
        together = {}
        for at in range(300):
            rows = [(row[0], chance.randint(1, row[2] // 30)) for row in chance.sample(hold.parts(), 30)]
            hold.cast(rows)
            for part, amount in rows:
                together[part] = together.get(part, 0) + amount
        one.cast(list(together.items()))
        self.assertEqual(seen(hold), seen(one))
        self.assertLess(time.monotonic() - began, 10)

    def test_every_deed(self):
        began = time.monotonic()
        chance, hold = self.great(10 ** 6)
        plain = PlainHold()
        for owner in hold.roster():
            plain.sign(owner)
        for part in hold.parts():
            plain.load(*part)
        for at in range(12):
            part, owner, worth, weight = hold.parts()[at]
            for deed in (("cast", [(part, worth // 9)]), ("award", letters(39 - at), 5 + at), ("mishap", part, 3),
                         ("rise", part, 7), ("hand", part, letters(at))):
                outcome(hold, deed)
                outcome(plain, deed)
        self.assertEqual(seen(hold), seen(plain))
        self.assertLess(time.monotonic() - began, 30)


if __name__ == "__main__":
    unittest.main()
