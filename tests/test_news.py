"""Points 10 and 18 over the whole program: drawn deeds and late news against plain voyages and fresh ones."""

import itertools
import random
import time
import unittest
from fractions import Fraction

from jettison.plan import lighten
from jettison.voyage import Voyage
from plain import (
    OWNERS, PlainVoyage, drawn_deed, drawn_news, drawn_voyage, fraction, letters, outcome, seen, seen_voyage, told,
)


class DrawnTest(unittest.TestCase):
    def test_against_the_plain_voyage(self):
        found = set()
        for seed in range(80):
            chance = random.Random(seed)
            voyage, plain = Voyage(), PlainVoyage()
            for owner in chance.sample(OWNERS, chance.randint(1, 4)):
                voyage.sign(owner)
                plain.sign(owner)
            for at in range(45):
                step = drawn_news(chance, plain)
                answer = outcome(voyage, step)
                self.assertEqual(answer, outcome(plain, step), (seed, at, step))
                self.assertEqual(seen_voyage(voyage), seen_voyage(plain), (seed, at, step))
                found.add((step[0], answer.__name__ if isinstance(answer, type) else "done"))
        for row in ("do done NoDeed NoPart NoOwner TooMuch Twice", "amend done NoDeed NoPart NoOwner TooMuch Twice",
                    "put_in done NoDeed NoPart NoOwner TooMuch Twice", "strike done NoDeed NoPart", "undo done NoDeed",
                    "found done NoDeed NoPart BadNumber TooMuch", "sign done Twice", "settle done"):
            word, *answers = row.split()
            for answer in answers:
                self.assertIn((word, answer), found)

    def test_the_hold_is_what_a_fresh_voyage_comes_to(self):
        for seed in range(40):
            chance = random.Random(seed)
            voyage = drawn_voyage(seed)
            for at in range(20):
                outcome(voyage, drawn_news(chance, voyage))
                hold = voyage.now()
                self.assertEqual(seen(told(hold.roster(), voyage.log()).now()), seen(hold))

    def test_found_is_never_refused_by_a_later_deed(self):
        many = 0
        for seed in range(80):
            voyage = drawn_voyage(seed, 16)
            for at, deed in enumerate(voyage.log()):
                for part, most in zip(deed[1::2], deed[2::2]) if deed[0] == "cast" else ():
                    for amount in {1, most, (most + 1) // 2}:
                        other = voyage.twin()
                        self.assertIsNone(other.found(at, part, amount))
                        self.assertEqual(other.log()[:at] + other.log()[at + 1:],
                                         voyage.log()[:at] + voyage.log()[at + 1:])
                        many += 1
        self.assertGreater(many, 300)


class OrderTest(unittest.TestCase):
    """Late news, told in whatever order, come to what would stand if all had been told rightly at once."""

    ROSTER = ["ann", "bob", "cid"]
    RIGHT = [("load", "tea", "ann", 100, 5), ("load", "oak", "bob", 300, 20), ("cast", "tea", 20, "oak", 7),
             ("award", "cid", 11), ("land", "oak"), ("mishap", "tea", 3)]

    def test_amendments_in_every_order(self):
        wrong = [("load", "tea", "bob", 90, 5), ("load", "oak", "bob", 280, 20), ("cast", "tea", 44), ("still",),
                 ("land", "oak"), ("mishap", "tea", 9)]
        news = [(at, deed) for at, deed in enumerate(self.RIGHT) if wrong[at] != deed]
        right = told(self.ROSTER, self.RIGHT)
        self.assertEqual(len(news), 5)
        for order in itertools.permutations(news):
            voyage = told(self.ROSTER, wrong)
            for at, deed in order:
                voyage.amend(at, deed)
            self.assertEqual(seen_voyage(voyage), seen_voyage(right))

    def test_deeds_put_in_in_every_order(self):
        right = told(self.ROSTER, self.RIGHT)
        late = [2, 3, 4, 5]
        for order in itertools.permutations(late):
            voyage, there = told(self.ROSTER, self.RIGHT[:2]), [0, 1]
            for number in order:
                at = len([each for each in there if each < number])
                voyage.put_in(at, self.RIGHT[number])
                there.append(number)
            self.assertEqual(seen_voyage(voyage), seen_voyage(right))

    def test_deeds_struck_and_found_in_every_order(self):
        wrong = self.RIGHT[:2] + [("cast", "tea", 25, "oak", 9)] + self.RIGHT[3:4] + [("award", "ann", 5)]
        wrong += self.RIGHT[4:] + [("rise", "tea", 4)]
        right = told(self.ROSTER, self.RIGHT)
        news = [("found", 2, "tea", 2), ("found", 2, "tea", 3), ("found", 2, "oak", 2), ("strike", ("award", "ann", 5)),
                ("strike", ("rise", "tea", 4))]
        for order in itertools.permutations(news):
            voyage = told(self.ROSTER, wrong)
            for word, *things in order:
                if word == "strike":
                    voyage.strike(voyage.log().index(things[0]))
                else:
                    voyage.found(*things)
            self.assertEqual(seen_voyage(voyage), seen_voyage(right))

    def test_an_owner_signed_early_or_late(self):
        right = told(["ann", "bob", "cid"], self.RIGHT)
        for many in range(4):
            voyage = told(["ann", "bob"], self.RIGHT[:many])
            voyage.sign("cid")
            for deed in self.RIGHT[many:]:
                voyage.do(deed)
            self.assertEqual(seen_voyage(voyage), seen_voyage(right))

    def test_drawn_ones_there_and_back(self):
        for seed in range(40):
            chance = random.Random(seed)
            voyage = drawn_voyage(seed)
            ahead = seen_voyage(voyage)
            for at in range(10):
                number, deed = chance.randrange(len(voyage.log())), drawn_deed(chance, voyage.now())
                was = voyage.log()[number]
                if outcome(voyage, ("amend", number, deed)) is None:
                    voyage.amend(number, was)
                if outcome(voyage, ("put_in", number, deed)) is None:
                    voyage.strike(number)
                if outcome(voyage, ("strike", number)) is None:
                    voyage.put_in(number, was)
                self.assertEqual(seen_voyage(voyage), ahead)

    def test_settlings_end_where_one_at_the_end_does(self):
        for seed in range(30):
            chance = random.Random(seed)
            often = drawn_voyage(seed)
            for at in range(15):
                outcome(often, drawn_news(chance, often))
                often.settle()
            once = told(often.now().roster(), often.log())
            once.settle()
            self.assertEqual(seen_voyage(often), seen_voyage(once))


def stakes_of(voyage):
    hold = voyage.now()
    return [fraction(hold.stake(owner)) for owner in hold.roster()]


def fortunes_of(voyage):
    hold = voyage.now()
    return [fraction(hold.fortune(owner)) for owner in hold.roster()]


class FollowsTest(unittest.TestCase):
    """Point 10, of holds that voyages came to."""

    def test_sums(self):
        for seed in range(60):
            chance = random.Random(seed)
            voyage = drawn_voyage(seed)
            for at in range(10):
                outcome(voyage, drawn_news(chance, voyage))
                hold = voyage.now()
                self.assertEqual(sum(stakes_of(voyage)), hold.whole())
                self.assertEqual(sum(fortunes_of(voyage)), hold.whole() + sum(row[2] for row in hold.landed()))
                self.assertEqual(sum(fraction(hold.purse(owner)) for owner in hold.roster()), 0)
                self.assertTrue(all(stake >= 0 for stake in stakes_of(voyage)))
                for shares in [hold.shares(row[0]) for row in hold.parts()]:
                    self.assertEqual(sum(fraction(share) for owner, share in shares), 1)

    def test_a_cast_takes_the_same_part_from_every_stake_whosever_it_was(self):
        for seed in range(40):
            voyage = drawn_voyage(seed)
            hold, ahead = voyage.now(), stakes_of(voyage)
            whole = hold.whole()
            for part, owner, worth, weight in hold.parts():
                for amount in {1, worth}:
                    if amount < whole:
                        voyage.do(("cast", part, amount))
                        left = Fraction(whole - amount, whole)
                        self.assertEqual(stakes_of(voyage), [stake * left for stake in ahead])
                        voyage.undo()

    def test_several_casts_in_any_order_come_to_one(self):
        for seed in range(15):
            voyage = drawn_voyage(seed)
            for at, part in enumerate(("wheat", "flax")):
                voyage.do(("load", part, OWNERS[at], 9 + at, 1))
            one, other = random.Random(seed).sample([row[0] for row in voyage.now().parts() if row[2] > 4], 2)
            casts = [("cast", one, 1), ("cast", one, 2, other, 1), ("cast", other, 1)]
            together = voyage.twin()
            together.do(("cast", one, 3, other, 2))
            for order in itertools.permutations(casts):
                voyage_again = voyage.twin()
                for deed in order:
                    voyage_again.do(deed)
                self.assertEqual(seen(voyage_again.now()), seen(together.now()))

    def test_severed_by_late_news_and_done_to_both_pieces(self):
        for many in (1, 30, 99):
            whole = told(["ann", "bob"], [("load", "tea", "ann", 100, 5), ("load", "oak", "bob", 300, 20),
                                          ("award", "bob", 13)])
            pieces = whole.twin()
            whole.do(("cast", "tea", 100))
            pieces.do(("still",))
            pieces.amend(3, ("sever", "tea", "leaf", many, 2))
            pieces.do(("cast", "tea", 100 - many, "leaf", many))
            whole.do(("land", "oak"))
            pieces.do(("land", "oak"))
            self.assertEqual(stakes_of(pieces), stakes_of(whole))
            self.assertEqual(fortunes_of(pieces), fortunes_of(whole))
            pieces.settle()
            whole.settle()
            self.assertEqual([pieces.moved("ann"), pieces.moved("bob")], [whole.moved("ann"), whole.moved("bob")])

    def test_all_so_many_times_as_great(self):
        for seed in range(20):
            small = drawn_voyage(seed)
            for many in (2, 1000):
                great = told(small.now().roster(), [times_as_great(deed, many) for deed in small.log()])
                hold, other = small.now(), great.now()
                for row in hold.parts():
                    self.assertEqual(other.shares(row[0]), hold.shares(row[0]))
                self.assertEqual(stakes_of(great), [stake * many for stake in stakes_of(small)])
                self.assertEqual(fortunes_of(great), [fortune * many for fortune in fortunes_of(small)])

    def test_no_choice_that_lightens_enough_leaves_a_greater_stake(self):
        for seed in range(20):
            voyage = drawn_voyage(seed)
            outcome(voyage, drawn_news(random.Random(seed), voyage))
            parts = voyage.now().parts()
            for tons in (1, 4, 7):
                names = lighten(voyage.now(), tons)
                enough = [rows for many in range(1, len(parts)) for rows in itertools.combinations(parts, many)
                          if sum(row[3] for row in rows) >= tons]
                if names is None:
                    self.assertEqual(enough, [])
                    continue
                best = cast_of(voyage, [row for row in parts if row[0] in names])
                for rows in enough:
                    for stake, most in zip(cast_of(voyage, rows), best):
                        self.assertLessEqual(stake, most)


def times_as_great(deed, many):
    """The deed with its worths and amounts so many times as great; weights stay."""
    if deed[0] in ("load", "sever"):
        return deed[:3] + (deed[3] * many, deed[4])
    return tuple(thing * many if isinstance(thing, int) else thing for thing in deed)


def cast_of(voyage, rows):
    """The stakes behind a cast of whole parts."""
    other = voyage.twin()
    other.do(("cast", *[thing for row in rows for thing in (row[0], row[2])]))
    return stakes_of(other)


class GreatLogTest(unittest.TestCase):
    """Point 2: logs of 200 deeds on holds of 40 owners and 60 parts are to be reckoned, too."""

    def great(self):
        chance = random.Random(5)
        voyage = told([letters(at) for at in range(40)], [])
        for at in range(60):
            voyage.do(("load", letters(at), letters(chance.randrange(40)), 10 ** 9 - chance.randrange(10 ** 8), at))
        while len(voyage.log()) < 200:
            rows = chance.sample(voyage.now().parts(), 9)
            voyage.do(chance.choice([
                ("award", letters(chance.randrange(40)), chance.randint(1, 10 ** 9)),
                ("cast", *[thing for row in rows for thing in (row[0], chance.randint(1, row[2] // 40))]),
                ("hand", rows[0][0], letters(chance.randrange(40))),
            ]))
        return voyage

    def test_news_of_a_great_log(self):
        began = time.monotonic()
        voyage = self.great()
        for at in (0, 59, 120, 199):
            self.assertIsNone(voyage.amend(at, voyage.log()[at]))
        first = voyage.log()[0]
        voyage.amend(0, ("load", first[1], first[2], 10 ** 9, 1))
        voyage.put_in(60, ("award", letters(0), 10 ** 9))
        voyage.strike(60)
        self.assertEqual(len(voyage.log()), 200)
        self.assertEqual(sum(stakes_of(voyage)), voyage.now().whole())
        for at in range(60):
            outcome(voyage, ("do", ("land", letters(at))))
        voyage.settle()
        self.assertTrue(0 <= voyage.chest() < 40)
        self.assertLess(time.monotonic() - began, 10)

    def test_undone_to_the_beginning(self):
        began = time.monotonic()
        voyage = self.great()
        while voyage.log():
            voyage.undo()
        self.assertEqual(voyage.now().parts(), [])
        self.assertLess(time.monotonic() - began, 20)


if __name__ == "__main__":
    unittest.main()
