import copy
import inspect
import unittest

from jettison.errors import BadName, BadNumber, BadRows, NoOwner, NoPart, TooMuch, Twice
from jettison.hold import Hold
from plain import seen

ONE = (1, 1)
NONE = (0, 1)
NO_NAMES = ["", "Tea", "tea1", "te a", "tea ", " tea", "tea\n", "abcdefghi", "-", "1"]


def small():
    """Tea, silk and oak of ann and bob; cid has nothing."""
    hold = Hold()
    for owner in ("ann", "bob", "cid"):
        hold.sign(owner)
    hold.load("tea", "ann", 100, 5)
    hold.load("oak", "bob", 300, 20)
    hold.load("silk", "ann", 200, 2)
    return hold


def travelled():
    """A hold that has gone through each deed: shares of several owners, parts landed, cast away and lost."""
    hold = small()
    hold.load("rum", "cid", 50, 4)
    hold.load("salt", "cid", 30, 9)
    hold.cast([("tea", 60), ("salt", 30)])
    hold.award("cid", 11)
    hold.hand("silk", "bob")
    hold.land("rum")
    hold.sever("oak", "plank", 100, 7)
    hold.rise("silk", 3)
    hold.mishap("tea", 40)
    hold.sign("dan")
    return hold


class HoldTest(unittest.TestCase):
    def refused(self, error, hold, word, *things):
        """The very class, and all as it was."""
        ahead = seen(hold)
        with self.assertRaises(error) as caught:
            getattr(hold, word)(*things)
        self.assertIs(type(caught.exception), error, (word, things))
        self.assertEqual(seen(hold), ahead, (word, things))

    def whole_numbers(self, told):
        """No bool, no other number, wherever it stands."""
        if isinstance(told, (list, tuple)):
            for thing in told:
                self.whole_numbers(thing)
        else:
            self.assertIn(type(told), (int, str))


class NewHoldTest(HoldTest):
    def test_a_new_hold_has_nothing(self):
        self.assertEqual(seen(Hold()), ([], [], [], 0, [], [], [], []))

    def test_whatever_is_asked_of_it_is_refused(self):
        hold = Hold()
        self.refused(NoOwner, hold, "load", "tea", "ann", 1, 0)
        self.refused(NoPart, hold, "cast", [("tea", 1)])
        self.refused(NoOwner, hold, "award", "ann", 1)
        for word, things in (("mishap", (1,)), ("rise", (1,)), ("hand", ("ann",)), ("land", ()), ("shares", ())):
            self.refused(NoPart, hold, word, "tea", *things)
        for word in ("stake", "purse", "fortune"):
            self.refused(NoOwner, hold, word, "ann")

    def test_two_holds_share_nothing(self):
        one, other = Hold(), Hold()
        one.sign("ann")
        one.load("tea", "ann", 5, 1)
        one.load("oak", "ann", 5, 1)
        one.land("tea")
        self.assertEqual(seen(other), ([], [], [], 0, [], [], [], []))
        other.sign("ann")
        other.load("tea", "ann", 7, 2)
        self.assertEqual(one.parts(), [("oak", "ann", 5, 1)])


class SignTest(HoldTest):
    def test_owners_in_the_order_of_signing(self):
        hold = Hold()
        for owner in ("cid", "ann", "bob"):
            self.assertIsNone(hold.sign(owner))
        self.assertEqual(hold.roster(), ["cid", "ann", "bob"])
        for owner in ("ann", "bob", "cid"):
            self.assertEqual((hold.stake(owner), hold.purse(owner), hold.fortune(owner)), (NONE, NONE, NONE))

    def test_names(self):
        hold = Hold()
        for owner in ("a", "abcdefgh"):
            hold.sign(owner)
        for owner in NO_NAMES:
            self.refused(BadName, hold, "sign", owner)
        self.assertEqual(hold.roster(), ["a", "abcdefgh"])

    def test_twice(self):
        hold = small()
        for owner in ("ann", "bob", "cid"):
            self.refused(Twice, hold, "sign", owner)

    def test_a_later_one_has_no_share_in_anything(self):
        hold = travelled()
        ahead = seen(hold)
        hold.sign("eve")
        behind = seen(hold)
        self.assertEqual(behind[0], ahead[0] + ["eve"])
        self.assertEqual(behind[1:4], ahead[1:4])
        self.assertEqual(behind[7], ahead[7])
        self.assertEqual((hold.stake("eve"), hold.purse("eve"), hold.fortune("eve")), (NONE, NONE, NONE))
        for told, was in zip(behind[4:7], ahead[4:7]):
            self.assertEqual(told, was + [NONE])

    def test_a_part_may_be_called_like_an_owner(self):
        hold = small()
        hold.load("ann", "bob", 4, 0)
        self.assertEqual(hold.shares("ann"), [("bob", ONE)])
        hold.sign("tea")
        self.assertEqual(hold.stake("tea"), NONE)


class LoadTest(HoldTest):
    def test_the_last_of_those_aboard(self):
        hold = small()
        self.assertIsNone(hold.load("rum", "cid", 1, 0))
        self.assertEqual(hold.parts(), [("tea", "ann", 100, 5), ("oak", "bob", 300, 20), ("silk", "ann", 200, 2),
                                        ("rum", "cid", 1, 0)])
        self.assertEqual(hold.shares("rum"), [("cid", ONE)])
        self.assertEqual(hold.whole(), 601)
        self.assertEqual([hold.stake(owner) for owner in hold.roster()], [(300, 1), (300, 1), ONE])

    def test_its_owner_has_the_share_one_behind_casts_and_awards_too(self):
        hold = travelled()
        hold.load("rye", "ann", 17, 3)
        self.assertEqual(hold.shares("rye"), [("ann", ONE)])
        self.assertEqual(hold.parts()[-1], ("rye", "ann", 17, 3))

    def test_refused(self):
        hold = small()
        for part in NO_NAMES:
            self.refused(BadName, hold, "load", part, "ann", 1, 0)
        self.refused(Twice, hold, "load", "tea", "ann", 1, 0)
        for owner in ("dan", "tea", "", "Ann"):
            self.refused(NoOwner, hold, "load", "rum", owner, 1, 0)
        for worth, weight in ((0, 0), (-1, 0), (1, -1), (0, -1), (-10 ** 12, 5)):
            self.refused(BadNumber, hold, "load", "rum", "ann", worth, weight)

    def test_the_reasons_in_their_order(self):
        hold = small()
        self.refused(BadName, hold, "load", "Tea", "dan", 0, -1)
        self.refused(Twice, hold, "load", "tea", "dan", 0, -1)
        self.refused(NoOwner, hold, "load", "rum", "dan", 0, -1)
        self.refused(BadNumber, hold, "load", "rum", "ann", 0, -1)

    def test_a_name_that_was_refused_can_be_loaded_later(self):
        hold = small()
        self.refused(NoOwner, hold, "load", "rum", "dan", 1, 0)
        self.refused(BadNumber, hold, "load", "rum", "ann", 0, 0)
        self.refused(BadNumber, hold, "load", "rum", "ann", 1, -1)
        hold.load("rum", "ann", 1, 0)
        self.assertEqual(hold.parts()[-1], ("rum", "ann", 1, 0))

    def test_a_name_of_what_is_gone_is_taken(self):
        hold = travelled()
        for part in ("rum", "salt", "tea", "oak", "plank", "silk"):
            self.refused(Twice, hold, "load", part, "ann", 1, 0)

    def test_great_worths(self):
        hold = small()
        hold.load("gold", "cid", 10 ** 12, 10 ** 12)
        self.assertEqual(hold.whole(), 10 ** 12 + 600)
        self.assertEqual(hold.stake("cid"), (10 ** 12, 1))


class CastTest(HoldTest):
    def test_all_bear_it(self):
        hold = small()
        self.assertIsNone(hold.cast([("tea", 60)]))
        self.assertEqual(hold.parts(), [("tea", "ann", 40, 5), ("oak", "bob", 300, 20), ("silk", "ann", 200, 2)])
        self.assertEqual(hold.shares("tea"), [("ann", ONE)])
        self.assertEqual(hold.shares("oak"), [("ann", (1, 10)), ("bob", (9, 10))])
        self.assertEqual(hold.shares("silk"), [("ann", ONE)])
        self.assertEqual([hold.stake(owner) for owner in hold.roster()], [(270, 1), (270, 1), NONE])
        self.assertEqual(hold.whole(), 540)

    def test_several_rows(self):
        hold = small()
        hold.cast([("silk", 60), ("oak", 60)])
        self.assertEqual(hold.parts(), [("tea", "ann", 100, 5), ("oak", "bob", 240, 20), ("silk", "ann", 140, 2)])
        for part, share in (("tea", (9, 10)), ("oak", (1, 10)), ("silk", (9, 10))):
            self.assertEqual(hold.shares(part), [("ann", share), ("bob", (10 - share[0], 10))])

    def test_all_of_one_part_while_others_stay(self):
        hold = small()
        hold.cast([("tea", 100)])
        self.assertEqual(hold.parts(), [("oak", "bob", 300, 20), ("silk", "ann", 200, 2)])
        self.assertEqual(hold.shares("oak"), [("ann", (1, 6)), ("bob", (5, 6))])
        self.assertEqual([hold.stake(owner) for owner in hold.roster()], [(250, 1), (250, 1), NONE])
        self.refused(NoPart, hold, "shares", "tea")
        self.refused(NoPart, hold, "cast", [("tea", 1)])
        self.refused(Twice, hold, "load", "tea", "ann", 1, 0)
        self.refused(Twice, hold, "sever", "oak", "tea", 1, 0)

    def test_all_but_one(self):
        hold = small()
        hold.cast([("silk", 200), ("oak", 300), ("tea", 99)])
        self.assertEqual(hold.parts(), [("tea", "ann", 1, 5)])
        self.assertEqual(hold.shares("tea"), [("ann", (1, 2)), ("bob", (1, 2))])

    def test_no_rows_and_two_of_one_part(self):
        hold = small()
        self.refused(BadRows, hold, "cast", [])
        self.refused(BadRows, hold, "cast", [("tea", 1), ("tea", 1)])
        self.refused(BadRows, hold, "cast", [("tea", 1), ("oak", 1), ("tea", 2)])
        self.refused(BadRows, hold, "cast", [("rum", 1), ("rum", 2)])

    def test_row_by_row(self):
        hold = small()
        for part in ("rum", "ann", "", "Tea"):
            self.refused(NoPart, hold, "cast", [(part, 1)])
        for amount in (0, -1, -10 ** 12):
            self.refused(BadNumber, hold, "cast", [("tea", amount)])
        for amount in (101, 10 ** 12):
            self.refused(TooMuch, hold, "cast", [("tea", amount)])
            self.refused(TooMuch, hold, "cast", [("oak", 1), ("tea", amount)])

    def test_not_all_that_is_aboard(self):
        hold = small()
        self.refused(TooMuch, hold, "cast", [("tea", 100), ("oak", 300), ("silk", 200)])
        only = Hold()
        only.sign("ann")
        only.load("tea", "ann", 4, 1)
        self.refused(TooMuch, only, "cast", [("tea", 4)])
        only.cast([("tea", 3)])
        self.refused(TooMuch, only, "cast", [("tea", 1)])
        self.assertEqual(only.shares("tea"), [("ann", ONE)])

    def test_the_reasons_in_their_order(self):
        hold = small()
        self.refused(BadRows, hold, "cast", [("rum", 0), ("tea", 1000), ("rum", 1)])
        self.refused(BadRows, hold, "cast", [("tea", 0), ("tea", 0)])
        self.refused(NoPart, hold, "cast", [("rum", 0), ("tea", 0)])
        self.refused(BadNumber, hold, "cast", [("tea", 0), ("rum", 1)])
        self.refused(TooMuch, hold, "cast", [("tea", 101), ("rum", 1), ("oak", 0)])
        self.refused(BadNumber, hold, "cast", [("oak", 300), ("silk", 200), ("tea", -100)])
        self.refused(NoPart, hold, "cast", [("tea", 100), ("oak", 300), ("silk", 200), ("rum", 1)])

    def test_a_row_that_is_refused_takes_the_others_with_it(self):
        hold = small()
        self.refused(NoPart, hold, "cast", [("tea", 100), ("rum", 1)])
        hold.cast([("tea", 100)])
        self.assertEqual(hold.whole(), 500)

    def test_rows_that_are_changed_behind_the_call(self):
        hold, other = small(), small()
        rows = [("tea", 60), ("oak", 1)]
        hold.cast(rows)
        other.cast([("tea", 60), ("oak", 1)])
        self.assertEqual(rows, [("tea", 60), ("oak", 1)])
        rows[0] = ("silk", 5)
        rows.append(("oak", 7))
        self.assertEqual(seen(hold), seen(other))
        self.refused(BadRows, hold, "cast", rows)
        self.assertEqual(rows, [("silk", 5), ("oak", 1), ("oak", 7)])


class AwardTest(HoldTest):
    def test_all_bear_it(self):
        hold = small()
        self.assertIsNone(hold.award("cid", 60))
        self.assertEqual(hold.parts(), small().parts())
        self.assertEqual(hold.shares("tea"), [("ann", (9, 10)), ("cid", (1, 10))])
        self.assertEqual(hold.shares("oak"), [("bob", (9, 10)), ("cid", (1, 10))])
        self.assertEqual([hold.stake(owner) for owner in hold.roster()], [(270, 1), (270, 1), (60, 1)])

    def test_to_one_who_has_a_share(self):
        hold = small()
        hold.award("ann", 150)
        self.assertEqual(hold.shares("tea"), [("ann", ONE)])
        self.assertEqual(hold.shares("oak"), [("ann", (1, 4)), ("bob", (3, 4))])
        self.assertEqual([hold.stake(owner) for owner in hold.roster()], [(375, 1), (225, 1), NONE])

    def test_just_less_than_the_whole(self):
        hold = small()
        hold.award("cid", 599)
        self.assertEqual(hold.stake("cid"), (599, 1))
        self.assertEqual(hold.stake("ann"), (1, 2))

    def test_refused(self):
        hold = small()
        for owner in ("dan", "tea", "", "Ann"):
            self.refused(NoOwner, hold, "award", owner, 1)
        for amount in (0, -1):
            self.refused(BadNumber, hold, "award", "ann", amount)
        for amount in (600, 601, 10 ** 12):
            self.refused(TooMuch, hold, "award", "ann", amount)

    def test_the_reasons_in_their_order(self):
        self.refused(NoOwner, small(), "award", "dan", 0)
        self.refused(NoOwner, small(), "award", "dan", 1000)
        empty = Hold()
        empty.sign("ann")
        self.refused(BadNumber, empty, "award", "ann", 0)
        self.refused(TooMuch, empty, "award", "ann", 1)


class MishapTest(HoldTest):
    def test_those_alone_who_have_a_share_in_it(self):
        hold = small()
        hold.cast([("tea", 60)])
        shares = [hold.shares(part) for part in ("tea", "oak", "silk")]
        self.assertIsNone(hold.mishap("oak", 100))
        self.assertEqual(hold.parts(), [("tea", "ann", 40, 5), ("oak", "bob", 200, 20), ("silk", "ann", 200, 2)])
        self.assertEqual([hold.shares(part) for part in ("tea", "oak", "silk")], shares)
        self.assertEqual([hold.stake(owner) for owner in hold.roster()], [(260, 1), (180, 1), NONE])

    def test_a_part_without_worth_is_gone(self):
        hold = small()
        hold.mishap("oak", 300)
        self.assertEqual(hold.parts(), [("tea", "ann", 100, 5), ("silk", "ann", 200, 2)])
        self.assertEqual(hold.landed(), [])
        self.assertEqual(hold.stake("bob"), NONE)
        self.refused(Twice, hold, "load", "oak", "bob", 1, 0)
        self.refused(Twice, hold, "sever", "tea", "oak", 1, 0)
        for word, things in (("mishap", (1,)), ("rise", (1,)), ("hand", ("ann",)), ("land", ()), ("shares", ()),
                             ("sever", ("rum", 1, 0))):
            self.refused(NoPart, hold, word, "oak", *things)

    def test_all_of_the_last_part(self):
        hold = Hold()
        hold.sign("ann")
        hold.load("tea", "ann", 4, 1)
        hold.mishap("tea", 4)
        self.assertEqual((hold.parts(), hold.whole(), hold.stake("ann")), ([], 0, NONE))

    def test_refused(self):
        hold = small()
        self.refused(NoPart, hold, "mishap", "rum", 1)
        self.refused(NoPart, hold, "mishap", "rum", 0)
        for amount in (0, -1):
            self.refused(BadNumber, hold, "mishap", "tea", amount)
        for amount in (101, 10 ** 12):
            self.refused(TooMuch, hold, "mishap", "tea", amount)


class RiseTest(HoldTest):
    def test_no_share_changes(self):
        hold = small()
        hold.cast([("tea", 60)])
        self.assertIsNone(hold.rise("oak", 100))
        self.assertEqual(hold.parts(), [("tea", "ann", 40, 5), ("oak", "bob", 400, 20), ("silk", "ann", 200, 2)])
        self.assertEqual(hold.shares("oak"), [("ann", (1, 10)), ("bob", (9, 10))])
        self.assertEqual([hold.stake(owner) for owner in hold.roster()], [(280, 1), (360, 1), NONE])
        hold.rise("tea", 10 ** 12)
        self.assertEqual(hold.whole(), 10 ** 12 + 640)

    def test_refused(self):
        hold = small()
        self.refused(NoPart, hold, "rise", "rum", 1)
        self.refused(NoPart, hold, "rise", "rum", 0)
        for amount in (0, -1):
            self.refused(BadNumber, hold, "rise", "tea", amount)


class HandTest(HoldTest):
    def test_to_one_without_a_share(self):
        hold = small()
        self.assertIsNone(hold.hand("tea", "cid"))
        self.assertEqual(hold.parts(), [("tea", "cid", 100, 5), ("oak", "bob", 300, 20), ("silk", "ann", 200, 2)])
        self.assertEqual(hold.shares("tea"), [("cid", ONE)])
        self.assertEqual([hold.stake(owner) for owner in hold.roster()], [(200, 1), (300, 1), (100, 1)])

    def test_to_one_who_has_a_share_already(self):
        hold = small()
        hold.cast([("tea", 60)])
        hold.award("cid", 54)
        self.assertEqual(hold.shares("oak"), [("ann", (9, 100)), ("bob", (81, 100)), ("cid", (1, 10))])
        hold.hand("oak", "ann")
        self.assertEqual(hold.shares("oak"), [("ann", (9, 10)), ("cid", (1, 10))])
        self.assertEqual(hold.parts()[1], ("oak", "ann", 300, 20))

    def test_back_again(self):
        hold = small()
        hold.cast([("tea", 60)])
        hold.hand("oak", "ann")
        self.assertEqual(hold.shares("oak"), [("ann", ONE)])
        hold.hand("oak", "bob")
        self.assertEqual(hold.shares("oak"), [("bob", ONE)])

    def test_by_way_of_one_without_a_share_and_back(self):
        hold = small()
        hold.cast([("tea", 60)])
        ahead = seen(hold)
        hold.hand("oak", "cid")
        self.assertEqual(hold.shares("oak"), [("ann", (1, 10)), ("cid", (9, 10))])
        hold.hand("oak", "bob")
        self.assertEqual(seen(hold), ahead)

    def test_to_the_owner_himself(self):
        hold = travelled()
        ahead = seen(hold)
        for part, owner, worth, weight in hold.parts():
            self.assertIsNone(hold.hand(part, owner))
            self.assertEqual(seen(hold), ahead)

    def test_other_parts_stay_as_they_are(self):
        hold = small()
        hold.cast([("tea", 60)])
        others = [hold.shares("tea"), hold.shares("silk")]
        hold.hand("oak", "cid")
        self.assertEqual([hold.shares("tea"), hold.shares("silk")], others)

    def test_shares_of_two_become_one(self):
        hold = small()
        hold.hand("tea", "cid")
        hold.hand("silk", "cid")
        hold.cast([("oak", 60)])
        hold.hand("oak", "cid")
        self.assertEqual(hold.shares("oak"), [("cid", ONE)])

    def test_refused(self):
        hold = small()
        self.refused(NoPart, hold, "hand", "rum", "bob")
        self.refused(NoPart, hold, "hand", "rum", "dan")
        for taker in ("dan", "tea", ""):
            self.refused(NoOwner, hold, "hand", "tea", taker)


class LandTest(HoldTest):
    def test_with_shares_of_others(self):
        hold = small()
        hold.cast([("tea", 60)])
        self.assertIsNone(hold.land("oak"))
        self.assertEqual(hold.parts(), [("tea", "ann", 40, 5), ("silk", "ann", 200, 2)])
        self.assertEqual(hold.landed(), [("oak", "bob", 300, [("ann", (1, 10)), ("bob", (9, 10))])])
        self.assertEqual(hold.whole(), 240)
        self.assertEqual([hold.stake(owner) for owner in hold.roster()], [(240, 1), NONE, NONE])
        self.assertEqual([hold.purse(owner) for owner in hold.roster()], [(30, 1), (-30, 1), NONE])
        self.assertEqual([hold.fortune(owner) for owner in hold.roster()], [(270, 1), (270, 1), NONE])

    def test_the_owner_has_no_share_left_in_it(self):
        hold = small()
        hold.hand("tea", "cid")
        hold.hand("oak", "ann")
        hold.hand("silk", "ann")
        hold.cast([("silk", 60)])
        hold.hand("tea", "bob")
        hold.land("tea")
        self.assertEqual(hold.landed(), [("tea", "bob", 100, [("ann", (1, 10)), ("bob", (9, 10))])])
        self.assertEqual([hold.purse(owner) for owner in hold.roster()], [(10, 1), (-10, 1), NONE])

    def test_in_the_order_of_landing(self):
        hold = small()
        for part in ("silk", "tea", "oak"):
            hold.land(part)
        self.assertEqual(hold.landed(), [("silk", "ann", 200, [("ann", ONE)]), ("tea", "ann", 100, [("ann", ONE)]),
                                         ("oak", "bob", 300, [("bob", ONE)])])
        self.assertEqual((hold.parts(), hold.whole()), ([], 0))
        self.assertEqual([hold.fortune(owner) for owner in hold.roster()], [(300, 1), (300, 1), NONE])

    def test_no_later_deed_changes_it(self):
        hold = small()
        hold.cast([("tea", 60)])
        hold.land("oak")
        landed = hold.landed()
        purses = [hold.purse(owner) for owner in hold.roster()]
        hold.sign("dan")
        hold.cast([("silk", 7)])
        hold.award("dan", 9)
        hold.award("bob", 13)
        hold.rise("tea", 1)
        hold.mishap("tea", 3)
        hold.hand("tea", "bob")
        hold.sever("silk", "sash", 5, 1)
        self.assertEqual(hold.landed(), landed)
        self.assertEqual([hold.purse(owner) for owner in hold.roster()], purses + [NONE])
        hold.land("sash")
        self.assertEqual(hold.landed()[:1], landed)

    def test_an_owner_signed_later_has_no_share_in_it(self):
        hold = small()
        hold.award("cid", 60)
        hold.land("tea")
        hold.sign("dan")
        self.assertEqual(hold.landed(), [("tea", "ann", 100, [("ann", (9, 10)), ("cid", (1, 10))])])
        self.assertEqual((hold.purse("dan"), hold.fortune("dan")), (NONE, NONE))
        hold.award("dan", 50)
        hold.land("oak")
        self.assertEqual(hold.landed()[1], ("oak", "bob", 300, [("bob", (81, 100)), ("cid", (9, 100)),
                                                               ("dan", (1, 10))]))
        self.assertEqual([hold.purse(owner) for owner in hold.roster()], [(-10, 1), (-57, 1), (37, 1), (30, 1)])

    def test_fractions_in_purses(self):
        hold = small()
        hold.cast([("tea", 7)])
        hold.land("oak")
        self.assertEqual([hold.purse(owner) for owner in hold.roster()], [(7, 2), (-7, 2), NONE])
        self.assertEqual(hold.fortune("bob"), (593, 2))

    def test_gone(self):
        hold = small()
        hold.land("oak")
        self.refused(NoPart, hold, "land", "oak")
        self.refused(NoPart, hold, "shares", "oak")
        self.refused(Twice, hold, "load", "oak", "bob", 1, 0)
        self.refused(Twice, hold, "sever", "tea", "oak", 1, 0)
        for part in ("rum", "", "ann"):
            self.refused(NoPart, hold, "land", part)


class SeverTest(HoldTest):
    def test_ordinary(self):
        hold = small()
        hold.cast([("tea", 60)])
        self.assertIsNone(hold.sever("oak", "plank", 100, 7))
        self.assertEqual(hold.parts(), [("tea", "ann", 40, 5), ("oak", "bob", 200, 13), ("silk", "ann", 200, 2),
                                        ("plank", "bob", 100, 7)])
        self.assertEqual(hold.shares("plank"), [("ann", (1, 10)), ("bob", (9, 10))])
        self.assertEqual(hold.shares("oak"), [("ann", (1, 10)), ("bob", (9, 10))])
        self.assertEqual(hold.whole(), 540)

    def test_the_pieces_go_their_own_ways(self):
        hold = small()
        hold.sever("oak", "plank", 100, 7)
        hold.hand("plank", "cid")
        self.assertEqual((hold.shares("oak"), hold.shares("plank")), ([("bob", ONE)], [("cid", ONE)]))
        hold.sever("silk", "sash", 1, 0)
        hold.hand("silk", "cid")
        self.assertEqual((hold.shares("silk"), hold.shares("sash")), ([("cid", ONE)], [("ann", ONE)]))

    def test_weights_at_the_edges(self):
        hold = small()
        hold.sever("oak", "a", 1, 0)
        hold.sever("oak", "b", 1, 20)
        hold.sever("oak", "c", 297, 0)
        self.assertEqual(hold.parts()[1], ("oak", "bob", 1, 0))
        self.assertEqual(hold.parts()[3:], [("a", "bob", 1, 0), ("b", "bob", 1, 20), ("c", "bob", 297, 0)])

    def test_refused(self):
        hold = small()
        self.refused(NoPart, hold, "sever", "rum", "plank", 1, 0)
        for name in NO_NAMES:
            self.refused(BadName, hold, "sever", "oak", name, 1, 0)
        for name in ("tea", "oak", "silk"):
            self.refused(Twice, hold, "sever", "oak", name, 1, 0)
        for amount, weight in ((0, 0), (-1, 0), (1, -1), (0, -1)):
            self.refused(BadNumber, hold, "sever", "oak", "plank", amount, weight)
        for amount, weight in ((300, 0), (301, 0), (1, 21), (300, 21), (10 ** 12, 0)):
            self.refused(TooMuch, hold, "sever", "oak", "plank", amount, weight)

    def test_the_reasons_in_their_order(self):
        hold = small()
        self.refused(NoPart, hold, "sever", "rum", "Plank", 0, -1)
        self.refused(NoPart, hold, "sever", "rum", "tea", 0, -1)
        self.refused(BadName, hold, "sever", "oak", "Plank", 0, -1)
        self.refused(Twice, hold, "sever", "oak", "tea", 0, -1)
        self.refused(BadNumber, hold, "sever", "oak", "plank", 300, -1)
        self.refused(BadNumber, hold, "sever", "oak", "plank", 0, 21)

    def test_names_of_what_is_gone_and_of_what_was_refused(self):
        hold = travelled()
        for name in ("rum", "salt", "tea", "plank"):
            self.refused(Twice, hold, "sever", "oak", name, 1, 0)
        self.refused(TooMuch, hold, "sever", "oak", "rye", 300, 0)
        self.refused(BadNumber, hold, "sever", "oak", "rye", 0, 0)
        hold.sever("oak", "rye", 1, 0)
        self.refused(Twice, hold, "load", "rye", "ann", 1, 0)
        self.assertEqual(hold.parts()[-1], ("rye", "bob", 1, 0))


class ToldTest(HoldTest):
    def test_shares_in_the_order_of_the_roster_without_those_of_nought(self):
        hold = Hold()
        for owner in ("cid", "bob", "ann", "dan"):
            hold.sign(owner)
        hold.load("tea", "ann", 100, 1)
        hold.load("oak", "cid", 100, 1)
        hold.award("dan", 20)
        self.assertEqual(hold.shares("tea"), [("ann", (9, 10)), ("dan", (1, 10))])
        self.assertEqual(hold.shares("oak"), [("cid", (9, 10)), ("dan", (1, 10))])
        hold.cast([("oak", 20)])
        self.assertEqual(hold.shares("tea"), [("cid", (9, 100)), ("ann", (81, 100)), ("dan", (1, 10))])

    def test_who_is_not_there(self):
        hold = travelled()
        for part in ("rum", "salt", "tea", "ann", "nix", ""):
            self.refused(NoPart, hold, "shares", part)
        for word in ("stake", "purse", "fortune"):
            for owner in ("silk", "eve", "", "Ann"):
                self.refused(NoOwner, hold, word, owner)

    def test_kinds(self):
        for hold in (Hold(), small(), travelled()):
            told = seen(hold)
            self.whole_numbers(told)
            for at in (0, 1, 2, 7):
                self.assertIs(type(told[at]), list)
            for row in told[1] + told[7]:
                self.assertIs(type(row), tuple)
            for shares in told[2] + [row[3] for row in told[7]]:
                self.assertIs(type(shares), list)
                for share in shares:
                    self.assertEqual((type(share), type(share[1])), (tuple, tuple))
            for a in told[4] + told[5] + told[6]:
                self.assertIs(type(a), tuple)

    def test_told_lists_are_the_callers_own(self):
        hold = travelled()
        ahead = copy.deepcopy(seen(hold))
        hold.roster().append("eve")
        hold.roster().clear()
        hold.parts().pop()
        hold.shares("silk").clear()
        hold.shares("silk")[0] = ("eve", ONE)
        hold.landed()[0][3].append(("eve", ONE))
        hold.landed().clear()
        self.assertEqual(seen(hold), ahead)
        self.refused(NoOwner, hold, "stake", "eve")

    def test_what_was_told_stays(self):
        hold = small()
        hold.land("tea")
        told = seen(hold)
        kept = copy.deepcopy(told)
        hold.award("cid", 3)
        hold.hand("oak", "cid")
        hold.land("oak")
        hold.sign("dan")
        self.assertEqual(told, kept)


class TwinTest(HoldTest):
    def test_alike(self):
        for hold in (Hold(), small(), travelled()):
            other = hold.twin()
            self.assertIsInstance(other, Hold)
            self.assertIsNot(other, hold)
            self.assertEqual(seen(other), seen(hold))

    def deeds(self):
        return [
            ("sign", "eve"), ("load", "rye", "ann", 3, 1), ("cast", [("oak", 5)]), ("award", "dan", 4),
            ("mishap", "oak", 6), ("rise", "silk", 9), ("hand", "oak", "ann"), ("land", "silk"),
            ("sever", "oak", "keel", 2, 1), ("mishap", "plank", 100),
        ]

    def test_each_goes_its_own_way(self):
        for word, *things in self.deeds():
            hold = travelled()
            other = hold.twin()
            ahead = seen(hold)
            getattr(other, word)(*things)
            self.assertEqual(seen(hold), ahead, word)
            self.assertNotEqual(seen(other), ahead, word)
            again = hold.twin()
            getattr(hold, word)(*things)
            self.assertEqual(seen(hold), seen(other), word)
            self.assertEqual(seen(again), ahead, word)

    def test_deeds_of_the_one_and_of_the_other(self):
        hold = travelled()
        other = hold.twin()
        alone, apart = travelled(), travelled()
        for at, (word, *things) in enumerate(self.deeds()):
            for one, same in ((hold, alone), (other, apart))[at % 2:][:1]:
                getattr(one, word)(*copy.deepcopy(things))
                getattr(same, word)(*things)
        self.assertEqual(seen(hold), seen(alone))
        self.assertEqual(seen(other), seen(apart))
        self.assertNotEqual(seen(hold), seen(other))

    def test_the_names_of_what_is_gone_are_known_to_both(self):
        hold = travelled()
        other = hold.twin()
        for one in (hold, other):
            for part in ("rum", "salt", "tea"):
                self.refused(Twice, one, "load", part, "ann", 1, 0)
                self.refused(Twice, one, "sever", "oak", part, 1, 0)
        other.load("rye", "ann", 1, 0)
        hold.load("rye", "bob", 2, 0)
        self.assertEqual((hold.parts()[-1], other.parts()[-1]), (("rye", "bob", 2, 0), ("rye", "ann", 1, 0)))


class InterfaceTest(unittest.TestCase):
    def test_names_and_arguments(self):
        awaited = {
            "sign": ["owner"], "load": ["part", "owner", "worth", "weight"], "cast": ["rows"],
            "award": ["owner", "amount"], "mishap": ["part", "amount"], "rise": ["part", "amount"],
            "hand": ["part", "taker"], "land": ["part"], "sever": ["part", "name", "amount", "weight"],
            "roster": [], "parts": [], "shares": ["part"], "whole": [], "stake": ["owner"], "purse": ["owner"],
            "fortune": ["owner"], "landed": [], "twin": [],
        }
        for name, arguments in awaited.items():
            self.assertEqual(list(inspect.signature(getattr(Hold(), name)).parameters), arguments, name)
        self.assertEqual(list(inspect.signature(Hold).parameters), [])


if __name__ == "__main__":
    unittest.main()
