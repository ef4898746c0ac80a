import inspect
import unittest

from jettison.errors import BadName, BadNumber, BadRows, NoDeed, NoOwner, NoPart, TooMuch, Twice
from jettison.hold import Hold
from jettison.plan import lighten
from jettison.voyage import Voyage
from plain import seen, seen_voyage, told

ONE = (1, 1)
NOTHING = ([], ([], [], [], 0, [], [], [], []), [], 0)

LOADS = [("load", "tea", "ann", 100, 5), ("load", "oak", "bob", 300, 20), ("load", "silk", "ann", 200, 2)]
# Each word once or more, each let by behind the loads and those ahead of it.
LATER = [
    ("cast", "tea", 60, "oak", 30), ("award", "cid", 17), ("hand", "silk", "bob"), ("sever", "oak", "plank", 100, 7),
    ("mishap", "tea", 10), ("still",), ("rise", "silk", 3), ("land", "plank"), ("cast", "tea", 30), ("land", "silk"),
]
# None of these is sound, and most would be refused otherwise by the hold.
UNSOUND = [
    ("cast",), ("cast", "rum", 0), ("load", "tea", "dan", 0, 0), ("load", "Rum", "ann", 1, 1), ("land", "tea", 1),
    ("rise", "rum", 10 ** 9 + 1), ("sign", "dan"), ("",), ("still", "still"), ("award", "dan", 0),
    ("mishap", "tea", 10 ** 40 - 1), ("sever", "rum", "oak", 0, -1), ("hand", "rum"), ("land", ""), ("undo",),
]
# Sound, and refused by the hold behind the loads.
REFUSED = [
    (Twice, ("load", "tea", "ann", 1, 1)), (NoOwner, ("load", "rum", "dan", 1, 1)), (NoPart, ("cast", "rum", 1)),
    (BadRows, ("cast", "tea", 1, "tea", 1)), (TooMuch, ("cast", "tea", 101)),
    (TooMuch, ("cast", "tea", 100, "oak", 300, "silk", 200)), (NoOwner, ("award", "dan", 1)),
    (TooMuch, ("award", "ann", 600)), (NoPart, ("mishap", "rum", 1)), (TooMuch, ("mishap", "tea", 101)),
    (NoPart, ("rise", "rum", 1)), (NoPart, ("hand", "rum", "dan")), (NoOwner, ("hand", "tea", "dan")),
    (NoPart, ("land", "rum")), (NoPart, ("sever", "rum", "oak", 1, 0)), (Twice, ("sever", "tea", "oak", 1, 0)),
    (TooMuch, ("sever", "tea", "leaf", 100, 0)), (TooMuch, ("sever", "tea", "leaf", 1, 6)),
]


def begun(deeds, roster=("ann", "bob", "cid")):
    return told(roster, deeds)


def settled():
    """A voyage with coins moved."""
    voyage = begun(LOADS + LATER)
    voyage.settle()
    return voyage


class VoyageTest(unittest.TestCase):
    def refused(self, error, voyage, word, *things):
        """The very class, and all as it was."""
        ahead = seen_voyage(voyage)
        with self.assertRaises(error) as caught:
            getattr(voyage, word)(*things)
        self.assertIs(type(caught.exception), error, (word, things))
        self.assertEqual(seen_voyage(voyage), ahead, (word, things))

    def stands_as(self, voyage, deeds, roster=("ann", "bob", "cid")):
        """Log and hold are those of a fresh voyage that was told these."""
        other = begun(deeds, roster)
        self.assertEqual(voyage.log(), list(deeds))
        self.assertEqual(seen(voyage.now()), seen(other.now()))


class NewVoyageTest(VoyageTest):
    def test_without_owners_with_an_empty_log(self):
        self.assertEqual(seen_voyage(Voyage()), NOTHING)

    def test_two_voyages_share_nothing(self):
        one, other = Voyage(), Voyage()
        one.sign("ann")
        one.do(LOADS[0])
        one.settle()
        self.assertEqual(seen_voyage(other), NOTHING)
        other.sign("bob")
        other.do(LOADS[1])
        self.stands_as(one, LOADS[:1], ["ann"])
        self.stands_as(other, LOADS[1:2], ["bob"])


class SignTest(VoyageTest):
    def test_in_the_order_of_signing(self):
        voyage = Voyage()
        for owner in ("cid", "ann", "bob"):
            self.assertIsNone(voyage.sign(owner))
        self.assertEqual(voyage.now().roster(), ["cid", "ann", "bob"])
        self.assertEqual(voyage.log(), [])
        self.assertEqual([voyage.moved(owner) for owner in ("ann", "bob", "cid")], [0, 0, 0])

    def test_refused_as_the_hold_refuses_it(self):
        voyage = settled()
        for owner in ("", "Ann", "ann1", "abcdefghi", "an n", "ann\n"):
            self.refused(BadName, voyage, "sign", owner)
        for owner in ("ann", "bob", "cid"):
            self.refused(Twice, voyage, "sign", owner)

    def test_a_name_of_a_part(self):
        voyage = settled()
        voyage.sign("tea")
        self.assertEqual((voyage.now().stake("tea"), voyage.moved("tea")), ((0, 1), 0))

    def test_late_behind_deeds_and_news_behind_that(self):
        voyage = begun(LOADS + LATER[:4])
        voyage.sign("dan")
        roster = ["ann", "bob", "cid", "dan"]
        self.stands_as(voyage, LOADS + LATER[:4], roster)
        voyage.do(("award", "dan", 9))
        voyage.amend(3, ("cast", "tea", 61, "oak", 30))
        log = LOADS + [("cast", "tea", 61, "oak", 30)] + LATER[1:4] + [("award", "dan", 9)]
        self.stands_as(voyage, log, roster)
        # He is signed apart from the log, so he may now have a part ahead of all.
        voyage.put_in(0, ("load", "rum", "dan", 50, 1))
        self.stands_as(voyage, [("load", "rum", "dan", 50, 1)] + log, roster)
        voyage.strike(0)
        voyage.undo()
        self.stands_as(voyage, log[:-1], roster)
        voyage.found(3, "tea", 61)
        self.stands_as(voyage, LOADS + [("cast", "oak", 30)] + LATER[1:4], roster)
        self.assertEqual(voyage.now().roster(), roster)

    def test_signing_stays_behind_undo(self):
        voyage = begun(LOADS[:1])
        voyage.sign("dan")
        voyage.undo()
        self.assertEqual(voyage.now().roster(), ["ann", "bob", "cid", "dan"])
        self.refused(Twice, voyage, "sign", "dan")
        self.refused(NoDeed, voyage, "undo")


class DoTest(VoyageTest):
    def test_each_word(self):
        voyage, hold = begun([]), Hold()
        for owner in ("ann", "bob", "cid"):
            hold.sign(owner)
        for at, (word, *things) in enumerate(LOADS + LATER):
            number = voyage.do((word, *things))
            self.assertEqual((number, type(number)), (at, int))
            if word == "cast":
                hold.cast(list(zip(things[::2], things[1::2])))
            elif word != "still":
                getattr(hold, word)(*things)
            self.assertEqual(voyage.log(), (LOADS + LATER)[:at + 1])
            self.assertEqual(seen(voyage.now()), seen(hold))
        self.assertEqual({deed[0] for deed in LOADS + LATER},
                         set("load cast award mishap rise hand land sever still".split()))

    def test_what_is_not_sound(self):
        for voyage in (Voyage(), begun(LOADS), settled()):
            for deed in UNSOUND:
                self.refused(NoDeed, voyage, "do", deed)

    def test_what_the_hold_refuses(self):
        for error, deed in REFUSED:
            self.refused(error, begun(LOADS), "do", deed)
        voyage = settled()
        for error, deed in ((Twice, ("load", "plank", "ann", 1, 1)), (NoPart, ("land", "tea")),
                            (NoPart, ("cast", "oak", 1, "silk", 1)), (TooMuch, ("cast", "oak", 170)),
                            (NoOwner, ("award", "dan", 1)), (Twice, ("sever", "oak", "tea", 1, 0))):
            self.refused(error, voyage, "do", deed)

    def test_the_number_behind_a_refusal(self):
        voyage = begun(LOADS)
        self.refused(NoPart, voyage, "do", ("land", "rum"))
        self.assertEqual(voyage.do(("still",)), 3)
        self.assertEqual(voyage.do(("still",)), 4)

    def test_told_logs_are_the_callers_own(self):
        voyage = settled()
        ahead = seen_voyage(voyage)
        log = voyage.log()
        self.assertEqual([type(deed) for deed in log], [tuple] * 13)
        log.append(("still",))
        log[0] = ("land", "rum")
        del log[1:5]
        voyage.log().clear()
        self.assertEqual(seen_voyage(voyage), ahead)
        voyage.do(("still",))
        self.assertEqual(voyage.log(), LOADS + LATER + [("still",)])
        voyage.strike(13)
        self.assertEqual(seen_voyage(voyage), ahead)

    def test_a_told_log_stays_as_it_was_told(self):
        voyage = begun(LOADS)
        log = voyage.log()
        voyage.do(("still",))
        voyage.amend(0, ("load", "tea", "ann", 99, 5))
        self.assertEqual(log, LOADS)

    def test_deeds_done_on_what_now_told(self):
        voyage = settled()
        ahead = seen_voyage(voyage)
        hold = voyage.now()
        hold.sign("dan")
        hold.award("dan", 5)
        hold.land("oak")
        hold.load("rum", "dan", 4, 4)
        self.assertEqual(seen_voyage(voyage), ahead)
        kept = seen(hold)
        voyage.do(("mishap", "oak", 1))
        voyage.sign("eve")
        self.assertEqual(seen(hold), kept)
        self.assertIsInstance(hold, Hold)

    def test_now_knows_the_names_of_what_is_gone(self):
        hold = settled().now()
        for part in ("tea", "plank", "silk"):
            with self.assertRaises(Twice):
                hold.load(part, "ann", 1, 1)


class NewsTest(VoyageTest):
    def log(self):
        return LOADS + LATER

    def test_amend(self):
        # The first, a middle and the last one.
        for at, deed in ((0, ("load", "tea", "cid", 105, 5)), (3, ("cast", "oak", 31)), (4, ("still",)),
                         (9, ("rise", "silk", 1000)), (12, ("land", "oak"))):
            voyage = begun(self.log())
            self.assertIsNone(voyage.amend(at, deed))
            self.stands_as(voyage, self.log()[:at] + [deed] + self.log()[at + 1:])

    def test_put_in(self):
        for at, deed in ((0, ("load", "rum", "cid", 95, 5)), (0, ("still",)), (4, ("cast", "oak", 31)),
                         (9, ("hand", "oak", "cid")), (12, ("rise", "oak", 1)), (13, ("land", "oak"))):
            voyage = begun(self.log())
            self.assertIsNone(voyage.put_in(at, deed))
            self.stands_as(voyage, self.log()[:at] + [deed] + self.log()[at:])

    def test_put_in_into_the_empty_log(self):
        voyage = begun([])
        voyage.put_in(0, LOADS[0])
        self.stands_as(voyage, LOADS[:1])
        voyage.put_in(0, LOADS[1])
        voyage.put_in(2, LOADS[2])
        self.stands_as(voyage, [LOADS[1], LOADS[0], LOADS[2]])

    def test_strike(self):
        for at in (3, 4, 5, 7, 8, 9, 11, 12):
            voyage = begun(self.log())
            self.assertIsNone(voyage.strike(at))
            self.stands_as(voyage, self.log()[:at] + self.log()[at + 1:])
        voyage = begun([("still",)] + LOADS)
        voyage.strike(0)
        self.stands_as(voyage, LOADS)

    def test_no_such_number(self):
        for voyage, many in ((Voyage(), 0), (begun(LOADS), 3), (settled(), 13)):
            for at in (-1, -2, -many, many + 1, many + 2, 10 ** 12, -10 ** 12):
                if at != 0 or many == 0:
                    for deed in (("still",), ("land", "rum"), ("cast",)):
                        self.refused(NoDeed, voyage, "amend", at, deed)
                        if at != 0:
                            self.refused(NoDeed, voyage, "put_in", at, deed)
                    self.refused(NoDeed, voyage, "strike", at)
                    self.refused(NoDeed, voyage, "found", at, "tea", 1)
            self.refused(NoDeed, voyage, "amend", many, ("still",))
            self.refused(NoDeed, voyage, "strike", many)

    def test_a_deed_that_is_not_sound(self):
        for deed in UNSOUND:
            for at in (0, 3, 12):
                self.refused(NoDeed, settled(), "amend", at, deed)
                self.refused(NoDeed, settled(), "put_in", at, deed)
            self.refused(NoDeed, settled(), "put_in", 13, deed)

    def test_a_deed_that_is_refused_itself(self):
        for error, deed in REFUSED:
            self.refused(error, begun(LOADS + [("still",)]), "amend", 3, deed)
            self.refused(error, begun(LOADS + [("still",), ("land", "tea")]), "put_in", 3, deed)
            self.refused(error, begun(LOADS), "put_in", 3, deed)

    def test_a_later_deed_is_refused_by_it(self):
        for error, word, things in (
            (NoPart, "strike", (0,)),                                       # tea is cast later
            (NoPart, "strike", (1,)),
            (NoPart, "strike", (6,)),                                       # plank is landed later
            (NoPart, "amend", (3, ("mishap", "tea", 100))),
            (TooMuch, "amend", (3, ("mishap", "tea", 91))),
            (TooMuch, "amend", (0, ("load", "tea", "ann", 59, 5))),
            (NoPart, "amend", (0, ("load", "tea", "ann", 60, 5))),          # gone by the cast, so the mishap finds none
            (TooMuch, "amend", (1, ("load", "oak", "bob", 300, 6))),        # the plank is heavier
            (TooMuch, "amend", (1, ("load", "oak", "bob", 130, 20))),
            (Twice, "put_in", (0, ("load", "oak", "cid", 1, 1))),
            (Twice, "put_in", (4, ("sever", "oak", "plank", 1, 1))),
            (NoPart, "put_in", (7, ("land", "tea"))),
            (NoPart, "put_in", (12, ("land", "silk"))),
        ):
            self.refused(error, settled(), word, *things)

    def test_the_first_refusal_is_raised(self):
        # Without its loading the cast of the tea is refused first, though later ones would be, too.
        voyage = begun(LOADS + [("hand", "tea", "bob"), ("cast", "oak", 1), ("mishap", "tea", 5), ("land", "tea")])
        self.refused(NoPart, voyage, "strike", 0)
        voyage = begun(LOADS + [("award", "cid", 500), ("land", "tea")])
        self.refused(TooMuch, voyage, "strike", 1)
        self.refused(NoPart, voyage, "put_in", 3, ("land", "rum"))
        self.refused(TooMuch, voyage, "put_in", 3, ("land", "silk"))
        self.refused(NoPart, voyage, "put_in", 4, ("land", "tea"))
        voyage = begun(LOADS + [("load", "rum", "ann", 7, 1), ("award", "cid", 601), ("mishap", "rum", 7)])
        self.refused(TooMuch, voyage, "strike", 3)
        voyage = begun(LOADS + [("load", "rum", "ann", 7, 1), ("mishap", "rum", 7), ("award", "cid", 400)])
        self.refused(NoPart, voyage, "amend", 3, ("mishap", "oak", 300))

    def test_undo_down_to_the_empty_log_and_beyond(self):
        voyage = begun(self.log())
        for many in range(len(self.log()) - 1, -1, -1):
            self.assertIsNone(voyage.undo())
            self.stands_as(voyage, self.log()[:many])
        for again in range(2):
            self.refused(NoDeed, voyage, "undo")
        self.refused(NoDeed, Voyage(), "undo")
        voyage.do(LOADS[0])
        self.stands_as(voyage, LOADS[:1])

    def test_a_name_is_free_again_where_its_loading_never_was(self):
        voyage = begun(LOADS)
        voyage.strike(0)
        voyage.do(("load", "tea", "bob", 7, 1))
        self.stands_as(voyage, LOADS[1:] + [("load", "tea", "bob", 7, 1)])

    def test_news_refused_and_then_let_by(self):
        voyage = settled()
        self.refused(NoPart, voyage, "strike", 6)
        voyage.strike(10)
        voyage.strike(6)
        self.stands_as(voyage, [deed for deed in self.log() if "plank" not in deed])

    def test_what_was_told_of_the_hold_ahead_stays(self):
        voyage = begun(self.log())
        hold = voyage.now()
        kept = seen(hold)
        voyage.amend(0, ("load", "tea", "cid", 105, 5))
        self.assertEqual(seen(hold), kept)
        self.assertNotEqual(seen(voyage.now()), kept)


class FoundTest(VoyageTest):
    CAST = ("cast", "tea", 60, "oak", 30)

    def voyage(self):
        voyage = begun(LOADS + [self.CAST, ("land", "oak"), ("still",), ("cast", "tea", 10)])
        voyage.settle()
        return voyage

    def becomes(self, part, amount, deed):
        voyage = self.voyage()
        self.assertIsNone(voyage.found(3, part, amount))
        self.stands_as(voyage, LOADS + [deed, ("land", "oak"), ("still",), ("cast", "tea", 10)])

    def test_a_part_of_a_row(self):
        self.becomes("tea", 1, ("cast", "tea", 59, "oak", 30))
        self.becomes("tea", 59, ("cast", "tea", 1, "oak", 30))
        self.becomes("oak", 29, ("cast", "tea", 60, "oak", 1))

    def test_a_whole_row(self):
        self.becomes("tea", 60, ("cast", "oak", 30))
        self.becomes("oak", 30, ("cast", "tea", 60))

    def test_the_last_row(self):
        voyage = self.voyage()
        voyage.found(3, "tea", 60)
        voyage.found(3, "oak", 10)
        self.assertEqual(voyage.log()[3], ("cast", "oak", 20))
        voyage.found(3, "oak", 20)
        self.stands_as(voyage, LOADS + [("still",), ("land", "oak"), ("still",), ("cast", "tea", 10)])
        voyage.found(6, "tea", 10)
        self.stands_as(voyage, LOADS + [("still",), ("land", "oak"), ("still",), ("still",)])
        for at in (3, 6):
            self.refused(NoDeed, voyage, "found", at, "oak", 1)

    def test_three_rows(self):
        voyage = begun(LOADS + [("cast", "silk", 5, "tea", 60, "oak", 30)])
        voyage.found(3, "tea", 60)
        self.stands_as(voyage, LOADS + [("cast", "silk", 5, "oak", 30)])
        voyage.found(3, "silk", 4)
        self.stands_as(voyage, LOADS + [("cast", "silk", 1, "oak", 30)])

    def test_refused(self):
        voyage = self.voyage()
        for at in (-1, -4, 7, 8):
            self.refused(NoDeed, voyage, "found", at, "tea", 1)
        for at in (0, 1, 2, 4, 5):
            for part in ("tea", "oak", "rum"):
                self.refused(NoDeed, voyage, "found", at, part, 1)
        for part in ("silk", "rum", "", "Tea", "cast", "ann"):
            self.refused(NoPart, voyage, "found", 3, part, 1)
        self.refused(NoPart, voyage, "found", 6, "oak", 1)
        for amount in (0, -1, -10 ** 12):
            self.refused(BadNumber, voyage, "found", 3, "tea", amount)
        for amount in (61, 10 ** 12):
            self.refused(TooMuch, voyage, "found", 3, "tea", amount)
        self.refused(TooMuch, voyage, "found", 3, "oak", 31)
        self.refused(TooMuch, voyage, "found", 6, "tea", 11)

    def test_the_reasons_in_their_order(self):
        voyage = self.voyage()
        self.refused(NoDeed, voyage, "found", 7, "rum", 0)
        self.refused(NoDeed, voyage, "found", 0, "rum", 0)
        self.refused(NoDeed, voyage, "found", 5, "rum", 0)
        self.refused(NoPart, voyage, "found", 3, "rum", 0)
        self.refused(NoPart, voyage, "found", 3, "rum", 100)
        self.refused(BadNumber, voyage, "found", 3, "oak", 0)

    def test_twice_until_nothing_is_left(self):
        voyage = self.voyage()
        voyage.found(3, "tea", 40)
        self.refused(TooMuch, voyage, "found", 3, "tea", 21)
        voyage.found(3, "tea", 20)
        self.refused(NoPart, voyage, "found", 3, "tea", 1)

    def test_later_deeds_that_come_near_to_a_refusal(self):
        later = [
            ("cast", "oak", 269, "silk", 200),                  # all but one coin of what is left of the oak
            ("award", "cid", 40), ("sever", "tea", "leaf", 39, 5), ("mishap", "tea", 1), ("rise", "oak", 1),
            ("cast", "leaf", 39, "oak", 1), ("hand", "oak", "cid"), ("land", "oak"),
        ]
        for part, amount, rows in (("tea", 60, ("oak", 30)), ("oak", 30, ("tea", 60)), ("tea", 1, None)):
            voyage = begun(LOADS + [self.CAST] + later)
            voyage.found(3, part, amount)
            deed = ("cast", *rows) if rows else ("cast", "tea", 59, "oak", 30)
            self.stands_as(voyage, LOADS + [deed] + later)

    def test_a_part_that_was_gone_is_there_again(self):
        voyage = begun(LOADS + [("cast", "tea", 100), ("land", "oak")])
        self.assertEqual([row[0] for row in voyage.now().parts()], ["silk"])
        voyage.found(3, "tea", 100)
        self.assertEqual(voyage.now().parts(), [("tea", "ann", 100, 5), ("silk", "ann", 200, 2)])
        self.assertEqual(voyage.now().landed(), [("oak", "bob", 300, [("bob", ONE)])])


class TwinTest(VoyageTest):
    def test_alike(self):
        for voyage in (Voyage(), begun(LOADS), settled()):
            other = voyage.twin()
            self.assertIsInstance(other, Voyage)
            self.assertIsNot(other, voyage)
            self.assertEqual(seen_voyage(other), seen_voyage(voyage))

    def test_each_goes_its_own_way(self):
        for word, *things in (
            ("sign", "dan"), ("do", ("still",)), ("do", ("land", "oak")), ("amend", 3, ("cast", "tea", 59)),
            ("put_in", 0, ("load", "rum", "cid", 95, 5)), ("strike", 12), ("undo",), ("found", 3, "oak", 30),
        ):
            voyage, same = settled(), settled()
            other = voyage.twin()
            ahead = seen_voyage(voyage)
            getattr(other, word)(*things)
            self.assertEqual(seen_voyage(voyage), ahead, word)
            self.assertNotEqual(seen_voyage(other), ahead, word)
            again = voyage.twin()
            getattr(voyage, word)(*things)
            getattr(same, word)(*things)
            self.assertEqual(seen_voyage(again), ahead, word)
            self.assertEqual(seen_voyage(voyage), seen_voyage(other), word)
            self.assertEqual(seen_voyage(voyage), seen_voyage(same), word)

    def test_coins(self):
        voyage = settled()
        ahead = seen_voyage(voyage)
        self.assertNotEqual(ahead[2], [0, 0, 0])
        other = voyage.twin()
        other.do(("land", "oak"))
        paid = other.settle()
        self.assertEqual(seen_voyage(voyage), ahead)
        self.assertNotEqual(seen_voyage(other)[2], ahead[2])
        self.assertEqual(voyage.settle(), [])
        self.assertEqual(other.settle(), [])
        voyage.strike(10)
        voyage.settle()
        self.assertNotEqual(seen_voyage(voyage)[2], seen_voyage(other)[2])
        third = settled()
        third.do(("land", "oak"))
        self.assertEqual(third.settle(), paid)
        self.assertEqual(seen_voyage(third), seen_voyage(other))

    def test_it_knows_the_names_of_what_is_gone(self):
        other = settled().twin()
        for part in ("tea", "plank", "silk"):
            self.refused(Twice, other, "do", ("load", part, "ann", 1, 1))


class LightenTest(VoyageTest):
    """Point 11, of the hold that a voyage tells, ahead of late news and behind it."""

    def test_ahead_and_behind(self):
        voyage = begun(LOADS + [("still",)])
        self.assertEqual(lighten(voyage.now(), 4), ["tea"])
        self.assertEqual(lighten(voyage.now(), 21), ["tea", "oak"])
        self.assertIsNone(lighten(voyage.now(), 26))
        self.assertEqual(lighten(voyage.now(), 0), [])
        voyage.amend(0, ("load", "tea", "ann", 100, 3))
        voyage.amend(1, ("load", "oak", "bob", 350, 20))
        self.assertEqual(lighten(voyage.now(), 4), ["tea", "silk"])
        voyage.amend(3, ("load", "rum", "cid", 99, 9))
        self.assertEqual(lighten(voyage.now(), 4), ["rum"])
        self.assertEqual(lighten(voyage.now(), 12), ["tea", "rum"])
        voyage.put_in(4, ("mishap", "oak", 349))
        self.assertEqual(lighten(voyage.now(), 4), ["oak"])
        voyage.strike(4)
        voyage.undo()
        self.assertEqual(lighten(voyage.now(), 4), ["tea", "silk"])
        voyage.do(("cast", "tea", 100))
        self.assertEqual(lighten(voyage.now(), 3), ["oak"])
        voyage.found(3, "tea", 100)
        self.assertEqual(lighten(voyage.now(), 3), ["tea"])

    def test_none_aboard(self):
        voyage = begun(LOADS[:1])
        self.assertEqual(lighten(voyage.now(), 0), [])
        self.assertIsNone(lighten(voyage.now(), 1))
        voyage.undo()
        self.assertIsNone(lighten(voyage.now(), 0))

    def test_the_voyage_stays_as_it_is(self):
        voyage = settled()
        ahead = seen_voyage(voyage)
        lighten(voyage.now(), 5)
        self.assertEqual(seen_voyage(voyage), ahead)


class InterfaceTest(unittest.TestCase):
    def test_names_and_arguments(self):
        awaited = {
            "sign": ["owner"], "do": ["deed"], "log": [], "now": [], "amend": ["at", "deed"], "put_in": ["at", "deed"],
            "strike": ["at"], "undo": [], "found": ["at", "part", "amount"], "settle": [], "moved": ["owner"],
            "chest": [], "twin": [],
        }
        for name, arguments in awaited.items():
            self.assertEqual(list(inspect.signature(getattr(Voyage(), name)).parameters), arguments, name)
        self.assertEqual(list(inspect.signature(Voyage).parameters), [])


if __name__ == "__main__":
    unittest.main()
