"""Point 22: the surveyor."""

import copy
import inspect
import random
import unittest

from jettison import survey
from jettison.errors import JettisonError
from jettison.papers import account, read_paper, written
from jettison.survey import first_wrong
from jettison.voyage import Voyage
from plain import drawn_news, drawn_voyage, outcome, plain_hold, plain_parts, told

ROSTER = ["ann", "bob", "cid"]
DEEDS = [
    ("load", "tea", "ann", 100, 5), ("load", "oak", "bob", 300, 20), ("cast", "tea", 50), ("award", "cid", 35),
    ("rise", "oak", 9), ("still",), ("land", "oak"), ("mishap", "tea", 50), ("still",),
]


def entries_told():
    return account(told(ROSTER, DEEDS))[1]


def swapped(entries, at, **changes):
    """The entries with one changed at that number."""
    deed, whole, parts = entries[at]
    entry = (changes.get("deed", deed), changes.get("whole", whole), changes.get("parts", parts))
    return entries[:at] + [entry] + entries[at + 1:]


def plain_wrong(roster, entries):
    """The first wrong entry, each held against a hold that is told all from the beginning."""
    for at, (deed, whole, parts) in enumerate(entries):
        try:
            hold = plain_hold(roster, [entry[0] for entry in entries[:at + 1]])
        except JettisonError:
            return at
        if (whole, parts) != (hold.whole(), plain_parts(hold)):
            return at
    return None


class SurveyTest(unittest.TestCase):
    def wrong(self, awaited, entries, roster=ROSTER):
        handed = copy.deepcopy((roster, entries))
        number = first_wrong(roster, entries)
        self.assertEqual(number, awaited)
        self.assertIs(type(number), type(awaited))
        self.assertEqual((roster, entries), handed)


class TrueTest(SurveyTest):
    def test_each_account(self):
        self.wrong(None, [], [])
        self.wrong(None, [])
        self.wrong(None, entries_told())
        for many in range(len(DEEDS)):
            self.wrong(None, entries_told()[:many])
        self.wrong(None, *reversed(account(Voyage())))

    def test_accounts_of_drawn_voyages(self):
        for seed in range(40):
            chance = random.Random(seed)
            voyage = drawn_voyage(seed)
            for at in range(5):
                outcome(voyage, drawn_news(chance, voyage))
            roster, entries = account(voyage)
            self.wrong(None, entries, roster)
            self.wrong(None, *reversed(read_paper(written(roster, entries))))

    def test_owners_more_in_the_roster_change_nothing(self):
        self.wrong(None, entries_told(), ROSTER + ["dan"])
        self.wrong(None, entries_told(), ["dan"] + ROSTER)


class WrongTest(SurveyTest):
    def test_the_sum_one_more_or_less(self):
        for at, entry in enumerate(entries_told()):
            for whole in (entry[1] + 1, entry[1] - 1, -entry[1] - 1, 10 ** 1000):
                self.wrong(at, swapped(entries_told(), at, whole=whole))

    def test_a_part_left_out_or_twice(self):
        for at, (deed, whole, parts) in enumerate(entries_told()):
            for place in range(len(parts)):
                self.wrong(at, swapped(entries_told(), at, parts=parts[:place] + parts[place + 1:]))
                self.wrong(at, swapped(entries_told(), at, parts=parts[:place + 1] + parts[place:]))
            self.wrong(at, swapped(entries_told(), at, parts=parts + [("rum", "ann", 0, 0, [])]))

    def test_parts_in_another_order(self):
        for at in (1, 2, 3, 4, 5):
            self.wrong(at, swapped(entries_told(), at, parts=entries_told()[at][2][::-1]))

    def test_another_name_owner_worth_weight_or_share(self):
        entries = entries_told()
        for at in (0, 1, 2, 3, 4, 5, 6):
            for place, row in enumerate(entries[at][2]):
                part, owner, worth, weight, shares = row
                for wrong in (
                    ("rum", owner, worth, weight, shares), (part, "cid", worth, weight, shares),
                    (part, "dan", worth, weight, shares), (part, owner, worth + 1, weight, shares),
                    (part, owner, worth - 1, weight, shares), (part, owner, worth, weight + 1, shares),
                    (part, owner, worth, weight - 1, shares), (part, owner, worth, weight, shares[:-1]),
                    (part, owner, worth, weight, shares + [("dan", (0, 1))]),
                    (part, owner, worth, weight, shares + shares[-1:]),
                    (part, owner, worth, weight, [(shares[0][0], (1, 1000))] + shares[1:]),
                    (part, owner, worth, weight, [("dan", shares[0][1])] + shares[1:]),
                    (part, owner, worth, weight, []),
                ):
                    parts = entries[at][2][:place] + [wrong] + entries[at][2][place + 1:]
                    self.wrong(at, swapped(entries, at, parts=parts))

    def test_shares_of_nought_and_in_another_order(self):
        entries = entries_told()
        tea, oak = entries[2][2]
        self.assertEqual(oak[4], [("ann", (1, 8)), ("bob", (7, 8))])
        for shares in (oak[4][::-1], oak[4] + [("cid", (0, 1))], [("cid", (0, 1))] + oak[4], [("ann", (1, 8))] * 2,
                       [("ann", (7, 8)), ("bob", (1, 8))], [("ann", (1, 8)), ("cid", (7, 8))]):
            self.wrong(2, swapped(entries, 2, parts=[tea, oak[:4] + (shares,)]))
        self.wrong(0, swapped(entries, 0, parts=[entries[0][2][0][:4] + ([("ann", (1, 1)), ("bob", (0, 1))],)]))

    def test_a_deed_that_is_refused(self):
        for at, deed in ((0, ("land", "tea")), (1, ("load", "tea", "ann", 1, 1)), (2, ("cast", "tea", 101)),
                         (2, ("cast", "tea", 1, "tea", 1)), (3, ("award", "dan", 1)), (5, ("cast", "rum", 1)),
                         (5, ("award", "cid", 359)), (8, ("land", "oak")), (8, ("load", "tea", "ann", 1, 1))):
            self.wrong(at, swapped(entries_told(), at, deed=deed))

    def test_a_deed_that_is_not_sound(self):
        for deed in (("cast",), ("cast", "tea", 0), ("load", "Rum", "ann", 1, 1), ("sign", "dan"), ("",), ("still", 1),
                     ("rise", "tea", 10 ** 9 + 1), ("land", "abcdefghi"), ("award", "cid", -1), ("5",),
                     ("land", "tea", 5), ("mishap", "tea", 10 ** 40 - 1)):
            for at in (0, 3, 5, 8):
                self.wrong(at, swapped(entries_told(), at, deed=deed))

    def test_another_deed_that_is_let_by(self):
        self.wrong(0, swapped(entries_told(), 0, deed=("load", "tea", "bob", 100, 5)))
        self.wrong(2, swapped(entries_told(), 2, deed=("mishap", "tea", 50)))
        self.wrong(3, swapped(entries_told(), 3, deed=("award", "cid", 34)))
        self.wrong(5, swapped(entries_told(), 5, deed=("rise", "tea", 1)))
        # Where it comes to the same it is right: rows in another order, a hand to the owner himself.
        self.wrong(None, swapped(entries_told(), 5, deed=("hand", "tea", "ann")))

    def test_a_name_that_shows_its_truth_only_later(self):
        # Lost at once or by two mishaps, the tea is gone; but once loaded its name is taken.
        entries = entries_told()
        self.wrong(9, entries + [(("load", "oak", "ann", 1, 1), 1, [("oak", "ann", 1, 1, [("ann", (1, 1))])])])

    def test_another_roster(self):
        self.wrong(0, entries_told(), [])
        self.wrong(0, entries_told(), ["bob", "cid"])
        self.wrong(1, entries_told(), ["ann", "cid"])
        self.wrong(3, entries_told(), ["ann", "bob"])
        self.wrong(2, entries_told(), ["bob", "ann", "cid"])
        self.wrong(3, entries_told(), ["cid", "ann", "bob"])

    def test_an_owner_that_the_roster_has_not(self):
        entries = entries_told()
        row = entries[0][2][0]
        self.wrong(0, swapped(entries, 0, parts=[row[:1] + ("dan",) + row[2:4] + ([("dan", (1, 1))],)]))
        self.wrong(0, swapped(entries, 0, deed=("load", "tea", "dan", 100, 5),
                              parts=[row[:1] + ("dan",) + row[2:4] + ([("dan", (1, 1))],)]))

    def test_an_entry_left_out_twice_or_in_another_place(self):
        entries = entries_told()
        self.wrong(0, entries[1:])
        self.wrong(1, entries[:1] + entries[2:])
        self.wrong(3, entries[:3] + entries[4:])
        self.wrong(1, entries[:1] + entries)
        self.wrong(0, [entries[1], entries[0]] + entries[2:])
        self.wrong(None, entries[:6] + entries[5:])

    def test_the_first_of_two(self):
        for first in range(len(DEEDS)):
            for second in range(first + 1, len(DEEDS)):
                entries = swapped(entries_told(), second, deed=("cast",))
                self.wrong(second, entries)
                self.wrong(first, swapped(entries, first, whole=7))
                self.wrong(first, swapped(swapped(entries_told(), second, whole=7), first, deed=("land", "rum")))

    def test_drawn_ones(self):
        found = set()
        for seed in range(150):
            chance = random.Random(seed)
            voyage = drawn_voyage(seed, 10)
            roster, entries = account(voyage)
            for at in range(chance.randint(1, 2)):
                number = chance.randrange(10)
                other = account(drawn_voyage(chance.randrange(150), 10))[1]
                entry = chance.choice([
                    {"deed": chance.choice(other)[0]}, {"whole": chance.choice(other)[1]},
                    {"parts": chance.choice(other)[2]}, {"parts": entries[number][2][:-1]}, {"deed": ("still",)},
                ])
                entries = swapped(entries, number, **entry)
            self.wrong(plain_wrong(roster, entries), entries, roster)
            found.add(first_wrong(roster, entries))
        self.assertLessEqual(set(range(10)), found)


class InterfaceTest(unittest.TestCase):
    def test_names_and_arguments(self):
        self.assertEqual(list(inspect.signature(survey.first_wrong).parameters), ["roster", "entries"])


if __name__ == "__main__":
    unittest.main()
