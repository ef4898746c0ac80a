"""Points 19 and 20: settlings, what was moved, and the chest."""

import math
import random
import unittest

from jettison.errors import NoOwner
from jettison.voyage import Voyage
from plain import OWNERS, PARTS, PlainVoyage, fraction, outcome, seen_voyage, told


LOADS = [("load", "tea", "ann", 100, 5), ("load", "oak", "bob", 300, 20), ("load", "silk", "ann", 200, 2)]


def laden(*deeds):
    """Three owners, three parts, and these deeds behind."""
    return told(["ann", "bob", "cid"], LOADS + list(deeds))


class CoinsTest(unittest.TestCase):
    def stands(self, voyage, *coins):
        """What was moved for each owner, and the chest behind them."""
        moved = [voyage.moved(owner) for owner in voyage.now().roster()] + [voyage.chest()]
        self.assertEqual(moved, list(coins))
        self.assertEqual([type(many) for many in moved], [int] * len(moved))

    def paid(self, voyage, *awaited):
        ahead = seen_voyage(voyage)
        payments = voyage.settle()
        self.assertEqual(payments, list(awaited))
        self.assertIs(type(payments), list)
        for row in payments:
            self.assertEqual([type(thing) for thing in row], [str, str, int])
            self.assertIs(type(row), tuple)
        self.assertEqual(seen_voyage(voyage)[:2], ahead[:2])


class SettleTest(CoinsTest):
    def test_nothing_to_move(self):
        voyage = Voyage()
        self.paid(voyage)
        self.stands(voyage, 0)
        voyage = laden(("cast", "tea", 60), ("land", "tea"))
        self.stands(voyage, 0, 0, 0, 0)
        self.paid(voyage)
        self.stands(voyage, 0, 0, 0, 0)

    def test_whole_purses(self):
        voyage = laden(("cast", "tea", 60), ("land", "oak"))
        self.stands(voyage, 0, 0, 0, 0)
        self.paid(voyage, ("bob", "ann", 30))
        self.stands(voyage, 30, -30, 0, 0)

    def test_twice_in_a_row(self):
        voyage = laden(("cast", "tea", 7), ("land", "oak"))
        self.paid(voyage, ("bob", "ann", 3), ("bob", "", 1))
        for again in range(3):
            self.paid(voyage)
            self.stands(voyage, 3, -4, 0, 1)

    def test_purses_that_are_no_whole_numbers(self):
        # Purses of 7/2 and -7/2: the floor of what is below nought is the lesser whole number.
        voyage = laden(("cast", "tea", 7), ("land", "oak"))
        self.assertEqual([voyage.now().purse(owner) for owner in ("ann", "bob")], [(7, 2), (-7, 2)])
        self.paid(voyage, ("bob", "ann", 3), ("bob", "", 1))
        self.stands(voyage, 3, -4, 0, 1)

    def test_a_purse_between_nought_and_minus_one(self):
        voyage = laden(("cast", "tea", 1), ("land", "oak"))
        self.assertEqual([voyage.now().purse(owner) for owner in ("ann", "bob")], [(1, 2), (-1, 2)])
        self.paid(voyage, ("bob", "", 1))
        self.stands(voyage, 0, -1, 0, 1)

    def test_the_chest_gives(self):
        voyage = laden(("cast", "tea", 7), ("land", "oak"))
        voyage.settle()
        self.stands(voyage, 3, -4, 0, 1)
        voyage.amend(3, ("cast", "tea", 8))
        self.paid(voyage, ("", "ann", 1))
        self.stands(voyage, 4, -4, 0, 0)

    def test_behind_landings(self):
        voyage = laden(("cast", "tea", 60), ("award", "cid", 54), ("land", "oak"))
        self.paid(voyage, ("bob", "ann", 27), ("bob", "cid", 30))
        self.stands(voyage, 27, -57, 30, 0)
        voyage.do(("land", "silk"))
        self.paid(voyage, ("ann", "cid", 20))
        self.stands(voyage, 7, -57, 50, 0)
        voyage.do(("land", "tea"))
        self.paid(voyage, ("ann", "cid", 4))
        self.stands(voyage, 3, -57, 54, 0)

    def test_behind_news_that_lower_a_purse(self):
        voyage = laden(("cast", "tea", 60), ("land", "oak"))
        voyage.settle()
        self.stands(voyage, 30, -30, 0, 0)
        voyage.found(3, "tea", 50)
        self.assertEqual(voyage.now().purse("ann"), (5, 1))
        self.stands(voyage, 30, -30, 0, 0)
        self.paid(voyage, ("ann", "bob", 25))
        self.stands(voyage, 5, -5, 0, 0)
        voyage.amend(3, ("award", "ann", 48))
        self.assertEqual(voyage.now().purse("ann"), (24, 1))
        self.paid(voyage, ("bob", "ann", 19))
        self.stands(voyage, 24, -24, 0, 0)
        voyage.undo()
        self.stands(voyage, 24, -24, 0, 0)
        self.paid(voyage, ("ann", "bob", 24))
        self.stands(voyage, 0, 0, 0, 0)

    def test_late_news_change_neither_what_was_moved_nor_the_chest(self):
        voyage = laden(("cast", "tea", 7), ("land", "oak"))
        voyage.settle()
        for word, things in (("amend", (3, ("cast", "tea", 90))), ("put_in", (0, ("still",))), ("strike", (0,)),
                             ("found", (3, "tea", 90)), ("undo", ()), ("do", (("land", "tea"),)),
                             ("strike", (4,)), ("undo", ()), ("undo", ()), ("undo", ()), ("undo", ())):
            getattr(voyage, word)(*things)
            self.stands(voyage, 3, -4, 0, 1)
        self.assertEqual(voyage.log(), [])
        self.paid(voyage, ("ann", "bob", 3), ("", "bob", 1))
        self.stands(voyage, 0, 0, 0, 0)

    def test_an_owner_signed_between(self):
        voyage = laden(("cast", "tea", 7), ("land", "oak"))
        voyage.settle()
        voyage.sign("dan")
        self.stands(voyage, 3, -4, 0, 0, 1)
        self.paid(voyage)
        voyage.do(("award", "dan", 10))
        voyage.do(("land", "silk"))
        purses = [voyage.now().purse(owner) for owner in ("ann", "bob", "cid", "dan")]
        floors = [math.floor(fraction(purse)) for purse in purses]
        self.assertGreater(floors[3], 0)
        voyage.settle()
        self.stands(voyage, *floors, -sum(floors))

    def test_an_owner_signed_behind_all_and_put_ahead_by_news(self):
        voyage = laden(("land", "oak"))
        voyage.settle()
        voyage.sign("dan")
        voyage.put_in(3, ("award", "dan", 60))
        self.stands(voyage, 0, 0, 0, 0, 0)
        self.paid(voyage, ("bob", "dan", 30))
        self.stands(voyage, 0, -30, 0, 30, 0)

    def test_givers_and_takers_in_the_order_of_the_roster_with_the_chest_behind(self):
        voyage = told(["zoe", "bob", "ann", "yan"], [
            ("load", "tea", "bob", 10, 1), ("load", "oak", "yan", 10, 1), ("load", "keel", "zoe", 7, 1),
            ("award", "zoe", 7), ("award", "ann", 5), ("land", "tea"), ("land", "oak"),
        ])
        floors = [math.floor(fraction(voyage.now().purse(owner))) for owner in ("zoe", "bob", "ann", "yan")]
        self.assertEqual(floors, [4, -4, 3, -4])
        self.paid(voyage, ("bob", "zoe", 4), ("yan", "ann", 3), ("yan", "", 1))
        voyage.undo()
        # From zoe and ann go two each; bob's stay.
        floors = [math.floor(fraction(voyage.now().purse(owner))) for owner in ("zoe", "bob", "ann", "yan")]
        self.assertEqual(floors, [2, -4, 1, 0])
        self.paid(voyage, ("zoe", "yan", 2), ("ann", "yan", 2))
        self.stands(voyage, 2, -4, 1, 0, 1)

    def test_told_payments_are_the_callers_own(self):
        voyage = laden(("cast", "tea", 60), ("land", "oak"))
        voyage.settle().clear()
        self.stands(voyage, 30, -30, 0, 0)
        voyage.settle().append(("ann", "bob", 1))
        self.paid(voyage)

    def test_great_purses(self):
        voyage = told(["ann", "bob"], [("load", "tea", "ann", 10 ** 9, 0), ("load", "oak", "bob", 10 ** 9, 0),
                                       ("award", "ann", 10 ** 9), ("land", "oak")])
        self.paid(voyage, ("bob", "ann", 5 * 10 ** 8))
        for at in range(30):
            voyage.do(("award", "bob", 10 ** 9 - 7 * at - 1))
        voyage.do(("land", "tea"))
        voyage.settle()
        self.assertEqual(voyage.moved("ann"), math.floor(fraction(voyage.now().purse("ann"))))


class MovedTest(CoinsTest):
    def test_who_is_not_signed(self):
        voyage = laden(("cast", "tea", 7), ("land", "oak"))
        for again in range(2):
            for owner in ("", "dan", "Ann", "tea", "-", "chest"):
                with self.assertRaises(NoOwner) as caught:
                    voyage.moved(owner)
                self.assertIs(type(caught.exception), NoOwner)
            voyage.settle()
        with self.assertRaises(NoOwner):
            Voyage().moved("")


class DrawnTest(CoinsTest):
    def bounds(self, voyage, ahead, paid):
        """Point 20, behind a settling."""
        roster = voyage.now().roster()
        moved = [voyage.moved(owner) for owner in roster]
        self.assertEqual(voyage.chest(), -sum(moved))
        self.assertGreaterEqual(voyage.chest(), 0)
        self.assertLess(voyage.chest(), max(1, len(roster)))
        floors = [math.floor(fraction(voyage.now().purse(owner))) for owner in roster]
        self.assertEqual(moved, floors)
        came = dict.fromkeys(roster + [""], 0)
        for giver, taker, coins in paid:
            self.assertGreaterEqual(coins, 1)
            came[giver] -= coins
            came[taker] += coins
        self.assertEqual([came[owner] for owner in roster + [""]],
                         [new - old for new, old in zip(moved + [voyage.chest()], ahead)])
        concerned = [name for name in came if came[name] != 0]
        self.assertLess(len(paid), max(1, len(concerned)))

    def drawn_step(self, chance, voyage):
        hold, log = voyage.now(), voyage.log()
        part = chance.choice([row[0] for row in hold.parts()] or ["tea"])
        deed = chance.choice([
            ("load", chance.choice(PARTS), chance.choice(OWNERS), chance.randint(20, 90), 1),
            ("load", chance.choice(PARTS), chance.choice(OWNERS), chance.randint(20, 90), 1),
            ("cast", part, chance.randint(1, 20)), ("award", chance.choice(OWNERS), chance.randint(1, 20)),
            ("hand", part, chance.choice(OWNERS)), ("land", part),
        ])
        news = chance.choice([
            ("sign", chance.choice(OWNERS)), ("strike", chance.randint(0, len(log))), ("undo",),
            ("found", chance.randint(0, len(log)), part, chance.randint(1, 5)),
            ("amend", chance.randint(0, len(log)), deed), ("put_in", chance.randint(0, len(log)), deed),
        ])
        return chance.choice([("do", deed), ("do", deed), ("do", deed), news, ("settle",)])

    def test_behind_drawn_deeds(self):
        settlings = 0
        for seed in range(60):
            chance = random.Random(seed)
            voyage, plain = Voyage(), PlainVoyage()
            for owner in chance.sample(OWNERS, 3):
                voyage.sign(owner)
                plain.sign(owner)
            for at in range(50):
                step = self.drawn_step(chance, plain)
                ahead = seen_voyage(voyage)
                paid = outcome(voyage, step)
                self.assertEqual(paid, outcome(plain, step), (seed, at, step))
                self.assertEqual(seen_voyage(voyage), seen_voyage(plain), (seed, at, step))
                if step == ("settle",):
                    self.bounds(voyage, ahead[2] + [ahead[3]], paid)
                    settlings += len(paid) > 0
                elif step[0] != "sign":
                    self.assertEqual(seen_voyage(voyage)[2:], ahead[2:])
        self.assertGreater(settlings, 50)


if __name__ == "__main__":
    unittest.main()
