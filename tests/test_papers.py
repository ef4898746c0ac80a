"""Points 21, 23 and 24: the account of a voyage, and papers."""

import copy
import inspect
import random
import unittest

from jettison import papers
from jettison.errors import BadPaper
from jettison.papers import account, read_paper, written
from jettison.voyage import Voyage
from plain import drawn_news, drawn_voyage, outcome, plain_account, plain_paper, plain_written, seen_voyage, told

ONE = (1, 1)
ROSTER = ["ann", "bob", "cid"]
DEEDS = [
    ("load", "tea", "ann", 100, 5), ("load", "oak", "bob", 300, 20), ("cast", "tea", 100), ("award", "cid", 30),
    ("land", "oak"), ("still",),
]
ENTRIES = [
    (DEEDS[0], 100, [("tea", "ann", 100, 5, [("ann", ONE)])]),
    (DEEDS[1], 400, [("tea", "ann", 100, 5, [("ann", ONE)]), ("oak", "bob", 300, 20, [("bob", ONE)])]),
    (DEEDS[2], 300, [("oak", "bob", 300, 20, [("ann", (1, 4)), ("bob", (3, 4))])]),
    (DEEDS[3], 300, [("oak", "bob", 300, 20, [("ann", (9, 40)), ("bob", (27, 40)), ("cid", (1, 10))])]),
    (DEEDS[4], 0, []),
    (DEEDS[5], 0, []),
]
PAPER = """roster ann bob cid
deed load tea ann 100 5
whole 100
part tea ann 100 5 ann 1/1
deed load oak bob 300 20
whole 400
part tea ann 100 5 ann 1/1
part oak bob 300 20 bob 1/1
deed cast tea 100
whole 300
part oak bob 300 20 ann 1/4 bob 3/4
deed award cid 30
whole 300
part oak bob 300 20 ann 9/40 bob 27/40 cid 1/10
deed land oak
whole 0
deed still
whole 0"""

# One deed of each word, to be written though no hold was asked.
WORDS = [
    ("load", "tea", "ann", 10 ** 9, 0), ("cast", "tea", 30, "oak", 2, "tea", 1), ("award", "zoe", 1),
    ("mishap", "tea", 10 ** 9), ("rise", "tea", 7), ("hand", "tea", "abcdefgh"), ("land", "deed"),
    ("sever", "whole", "part", 5, 10 ** 9), ("still",),
]


def small():
    return told(ROSTER, DEEDS)


class PaperTest(unittest.TestCase):
    def kinds(self, roster, entries):
        """Lists, tuples, texts and whole numbers as the interface tells them; no bool."""
        self.assertEqual((type(roster), type(entries)), (list, list))
        self.assertTrue(all(type(owner) is str for owner in roster))
        for entry in entries:
            deed, whole, parts = entry
            self.assertEqual([type(thing) for thing in (entry, deed, whole, parts)], [tuple, tuple, int, list])
            self.assertTrue(all(type(thing) in (str, int) for thing in deed))
            for row in parts:
                self.assertEqual([type(row)] + [type(thing) for thing in row], [tuple, str, str, int, int, list])
                for share in row[4]:
                    self.assertEqual([type(share), type(share[0]), type(share[1])], [tuple, str, tuple])
                    self.assertEqual([type(number) for number in share[1]], [int, int])

    def refused(self, text):
        with self.assertRaises(BadPaper) as caught:
            read_paper(text)
        self.assertIs(type(caught.exception), BadPaper, text)

    def there_and_back(self, roster, entries):
        handed = copy.deepcopy((roster, entries))
        text = written(roster, entries)
        self.assertEqual((roster, entries), handed)
        self.assertIs(type(text), str)
        again = read_paper(text)
        self.assertIs(type(again), tuple)
        self.assertEqual(again, (roster, entries))
        self.kinds(*again)
        return text


class AccountTest(PaperTest):
    def test_an_empty_voyage(self):
        self.assertEqual(account(Voyage()), ([], []))
        self.kinds(*account(Voyage()))

    def test_owners_without_deeds(self):
        voyage = Voyage()
        for owner in ("cid", "ann"):
            voyage.sign(owner)
        self.assertEqual(account(voyage), (["cid", "ann"], []))

    def test_ordinary(self):
        voyage = small()
        ahead = seen_voyage(voyage)
        self.assertEqual(account(voyage), (ROSTER, ENTRIES))
        self.assertIs(type(account(voyage)), tuple)
        self.kinds(*account(voyage))
        self.assertEqual(seen_voyage(voyage), ahead)

    def test_behind_late_news(self):
        voyage = small()
        voyage.sign("dan")
        voyage.amend(3, ("still",))
        awaited = ENTRIES[:3] + [(("still",), 300, ENTRIES[2][2])] + ENTRIES[4:]
        self.assertEqual(account(voyage), (ROSTER + ["dan"], awaited))

    def test_shares_in_the_order_of_the_roster(self):
        voyage = Voyage()
        for owner in ("zoe", "bob", "ann"):
            voyage.sign(owner)
        for deed in (("load", "tea", "ann", 90, 0), ("award", "zoe", 30), ("award", "bob", 45)):
            voyage.do(deed)
        shares = [("zoe", (1, 6)), ("bob", (1, 2)), ("ann", (1, 3))]
        self.assertEqual(account(voyage)[1][2], (("award", "bob", 45), 90, [("tea", "ann", 90, 0, shares)]))

    def test_its_lists_are_the_callers_own(self):
        voyage = small()
        ahead = seen_voyage(voyage)
        roster, entries = account(voyage)
        roster.append("dan")
        entries[2][2][0][4].clear()
        entries[0][2].append(("rum", "ann", 1, 1, []))
        entries[1][2][0][4].append(("bob", ONE))
        # One entry's lists are not another's.
        self.assertEqual(entries[0][2][0], ENTRIES[0][2][0])
        self.assertEqual(entries[3:], ENTRIES[3:])
        entries.clear()
        self.assertEqual(seen_voyage(voyage), ahead)
        self.assertEqual(account(voyage), (ROSTER, ENTRIES))

    def test_what_was_told_stays(self):
        voyage = small()
        kept = account(voyage)
        voyage.amend(0, ("load", "tea", "bob", 100, 5))
        voyage.sign("dan")
        self.assertEqual(kept, (ROSTER, ENTRIES))

    def test_behind_drawn_deeds(self):
        for seed in range(40):
            chance = random.Random(seed)
            voyage = drawn_voyage(seed)
            for at in range(6):
                outcome(voyage, drawn_news(chance, voyage))
            self.assertEqual(account(voyage), plain_account(voyage.now().roster(), voyage.log()))
            self.kinds(*account(voyage))
            # The last entry tells the hold as it stands.
            hold = voyage.now()
            whole, parts = account(voyage)[1][-1][1:]
            self.assertEqual((whole, [row[:4] for row in parts]), (hold.whole(), hold.parts()))
            self.assertEqual([row[4] for row in parts], [hold.shares(row[0]) for row in parts])


class WrittenTest(PaperTest):
    def test_ordinary(self):
        self.assertEqual(written(ROSTER, ENTRIES), PAPER)
        self.assertEqual(read_paper(PAPER), (ROSTER, ENTRIES))
        self.kinds(*read_paper(PAPER))

    def test_an_empty_roster_and_no_entries(self):
        self.assertEqual(written([], []), "roster")
        self.assertEqual(read_paper("roster"), ([], []))
        self.assertEqual(written(["ann"], []), "roster ann")
        self.assertEqual(read_paper("roster ann"), (["ann"], []))
        self.assertEqual(written([], [(("still",), 0, [])]), "roster\ndeed still\nwhole 0")
        self.assertEqual(read_paper("roster\ndeed still\nwhole 0"), ([], [(("still",), 0, [])]))

    def test_each_word(self):
        text = self.there_and_back(["ann"], [(deed, 7, []) for deed in WORDS])
        self.assertIn("\ndeed cast tea 30 oak 2 tea 1\nwhole 7\n", text)
        self.assertIn("\ndeed load tea ann 1000000000 0\n", text)

    def test_entries_that_are_not_true(self):
        self.there_and_back(["ann"], [
            (("land", "rum"), 12, [("oak", "dan", 0, 0, [])]),
            (("still",), 0, [("oak", "dan", 5, 0, [("eve", (0, 1)), ("dan", (7, 2)), ("ann", (1000, 1))])]),
            (("cast", "tea", 1, "tea", 1), 9, [("tea", "tea", 1, 2, [("tea", (1, 3))])] * 3),
        ])

    def test_names_that_stand_twice(self):
        self.there_and_back(["ann", "bob", "ann", "ann"], [
            (("load", "tea", "ann", 5, 5), 5, [("tea", "ann", 5, 5, [("ann", (1, 2)), ("ann", (1, 2))]),
                                               ("tea", "ann", 5, 5, [("ann", ONE)])]),
        ])

    def test_names_like_the_rows_own_words(self):
        self.there_and_back(["roster", "deed", "whole", "part"], [
            (("land", "deed"), 5, [("part", "whole", 5, 5, [("deed", (1, 2)), ("roster", (1, 2))])]),
            (("rise", "part", 5), 5, []),
        ])

    def test_long_numbers_and_fractions(self):
        for many in (41, 64, 65, 128, 999, 1000, 1001):
            number = 10 ** many - 1
            shares = [("ann", (number, 1)), ("bob", (1, number)), ("cid", (number - 1, number)), ("dan", (0, 1)),
                      ("eve", (10 ** (many - 1), number)), ("fay", (number, 10 ** (many - 1)))]
            text = self.there_and_back(["ann"], [
                (("still",), number, [("tea", "ann", number, 10 ** (many - 1), shares)]),
                (("still",), 10 ** (many - 1), [("tea", "ann", 0, number - 1, shares[::-1])]),
            ])
            self.assertEqual(text, plain_written(*read_paper(text)))
            self.assertIn(f"\nwhole {number}\n", text)

    def test_accounts_of_drawn_voyages(self):
        for seed in range(30):
            roster, entries = account(drawn_voyage(seed))
            text = self.there_and_back(roster, entries)
            self.assertEqual(text, plain_written(roster, entries))
            self.assertEqual(plain_paper(text), (roster, entries))

    def test_a_long_paper(self):
        roster = [first + second for first in "abcd" for second in "abcdefghij"]
        shares = [(owner, (at + 1, 821)) for at, owner in enumerate(roster)]
        entries = [(("still",), at, [(part, "aa", 1, at, list(shares)) for part in roster]) for at in range(200)]
        self.there_and_back(roster, entries)

    def test_what_was_read_is_the_callers_own(self):
        one, other = read_paper(PAPER), read_paper(PAPER)
        one[0].clear()
        one[1][2][2][0][4].clear()
        one[1][1][2].pop()
        one[1].pop()
        self.assertEqual(other, (ROSTER, ENTRIES))
        self.assertEqual(read_paper(PAPER), (ROSTER, ENTRIES))


class ReadPaperTest(PaperTest):
    ROWS = PAPER.split("\n")

    def rows_are_none(self, rows):
        self.refused("\n".join(rows))

    def test_no_paper_at_all(self):
        for text in ("", " ", "\n", "\n\n", "ann", "roster\n", "\nroster", " roster", "roster ", "Roster", "rosters",
                     "roster  ann", "roster ann ", "deed still\nwhole 0", "whole 0", "part tea ann 1 1", "roster ann\n",
                     "roster\n\n", "roster roster ann\nroster", "roster\nroster"):
            self.refused(text)

    def test_a_row_left_out(self):
        for at, row in enumerate(self.ROWS):
            if not row.startswith("part"):
                self.rows_are_none(self.ROWS[:at] + self.ROWS[at + 1:])
        # A part's row is none that must be there: another paper, and not the same.
        self.assertNotEqual(read_paper("\n".join(self.ROWS[:3] + self.ROWS[4:])), (ROSTER, ENTRIES))

    def test_a_row_twice(self):
        for at, row in enumerate(self.ROWS):
            twice = self.ROWS[:at + 1] + self.ROWS[at:]
            if row.startswith("part"):
                self.assertEqual(len(read_paper("\n".join(twice))[1]), 6)
            else:
                self.rows_are_none(twice)

    def test_a_row_in_another_place(self):
        self.rows_are_none(self.ROWS[1:] + self.ROWS[:1])
        self.rows_are_none([self.ROWS[1], self.ROWS[0]] + self.ROWS[2:])
        self.rows_are_none([self.ROWS[0], self.ROWS[2], self.ROWS[1]] + self.ROWS[3:])
        self.rows_are_none(self.ROWS[:2] + [self.ROWS[3], self.ROWS[2]] + self.ROWS[4:])
        self.rows_are_none([self.ROWS[0], self.ROWS[3]] + self.ROWS[1:3] + self.ROWS[4:])
        self.rows_are_none(self.ROWS[:1] + [self.ROWS[2]] + self.ROWS[1:2] + self.ROWS[3:])

    def test_an_empty_row(self):
        for at in range(len(self.ROWS) + 1):
            self.rows_are_none(self.ROWS[:at] + [""] + self.ROWS[at:])

    def test_line_ends(self):
        for text in (PAPER + "\n", "\n" + PAPER, PAPER + "\n\n", PAPER.replace("\n", "\n\n", 1),
                     PAPER.replace("\n", " ")):
            self.refused(text)

    def test_blanks(self):
        for at, row in enumerate(self.ROWS):
            for wrong in (row + " ", " " + row, row.replace(" ", "  ", 1), row.replace(" ", "", 1)):
                self.rows_are_none(self.ROWS[:at] + [wrong] + self.ROWS[at + 1:])

    def entry(self, deed="still", whole="whole 5", part="part tea ann 5 1 ann 1/1"):
        return f"roster ann\ndeed {deed}\n{whole}\n{part}"

    def test_the_entry_that_the_wrong_ones_are_made_of(self):
        self.assertEqual(read_paper(self.entry()),
                         (["ann"], [(("still",), 5, [("tea", "ann", 5, 1, [("ann", ONE)])])]))

    def test_deeds_that_are_not_sound(self):
        for deed in ("", "cast", "cast tea", "cast tea 0", "cast tea 01", "cast tea 1 oak", "rise tea 1000000001",
                     "sign ann", "load tea ann 5", "load tea ann 0 5", "load Tea ann 1 5", "still 0", "Still",
                     "land abcdefghi", "land tea ", " still", "land  tea", "deed still", "5", "-"):
            self.refused(self.entry(deed=deed))

    def test_wholes(self):
        for whole in ("whole", "whole ", "whole 05", "whole 00", "whole -1", "whole x", "whole 5 5", "Whole 5", "5",
                      "whole 5/1", "whole +5", "whole 1_0", "whole ann", "wholes 5", "part tea ann 5 1 ann 1/1"):
            self.refused(self.entry(whole=whole))
        for whole in ("0", "10", "9" * 1000):
            self.assertEqual(read_paper(self.entry(whole="whole " + whole))[1][0][1], int(whole))

    def test_parts(self):
        for part in (
            "part", "part tea", "part tea ann", "part tea ann 5", "part tea ann 5 1 ann", "part tea ann 5 1 1/1",
            "part tea ann 5 1 ann 1/1 bob", "part tea ann 5 1 ann ann 1/1", "part tea ann 5 1 1/1 ann",
            "part tea ann 5 1 5 1/1", "part tea ann 05 1", "part tea ann 5 01", "part tea ann -5 1",
            "part tea ann 5 -1", "part tea ann x 1", "part tea ann 5 x", "part Tea ann 5 1", "part tea Ann 5 1", "part tea 5 5 1",
            "part 5 ann 5 1", "part tea ann 5 1 Ann 1/1", "part tea ann 5 1 abcdefghi 1/1", "parts tea ann 5 1",
            "tea ann 5 1", "part tea ann 5 1 ann  1/1", "part  ann 5 1", "part tea  5 1", "part tea ann  1",
            "part tea ann 5 ", "part tea ann 5 1 ", "part tea ann 5 1  1/1", "part tea ann 5 1 - 1/1",
        ):
            self.refused(self.entry(part=part))
        self.assertEqual(read_paper(self.entry(part="part tea ann 0 0"))[1][0][2], [("tea", "ann", 0, 0, [])])

    def test_fractions(self):
        for share in ("2/4", "0/2", "0/0", "1/0", "5/0", "1", "0", "1/", "/1", "/", "1/1/1", "01/2", "1/02", "-1/2",
                      "1/-2", "+1/2", "6/3", "x/2", "1/x", "1.5", "1//2", "00/1", "3/3", "1/1_0", "1/2\t",
                      "10" + "0" * 500 + "/10"):
            self.refused(self.entry(part=f"part tea ann 5 1 ann {share}"))
            self.refused(self.entry(part=f"part tea ann 5 1 bob 1/2 ann {share}"))
            self.refused(self.entry(part=f"part tea ann 5 1 ann {share} bob 1/2"))
        for share, value in (("0/1", (0, 1)), ("7/2", (7, 2)), ("1/10", (1, 10)), ("10/1", (10, 1))):
            row = read_paper(self.entry(part=f"part tea ann 5 1 ann {share}"))[1][0][2][0]
            self.assertEqual(row, ("tea", "ann", 5, 1, [("ann", value)]))

    def test_rosters(self):
        for roster in ("roster Ann", "roster ann Bob", "roster ann 5", "roster abcdefghi", "roster ann-bob",
                       "roster ann,bob", "roster an1", "roster ann /"):
            self.refused(roster)
            self.refused(roster + "\ndeed still\nwhole 0")

    def test_every_sign_put_in_taken_or_swapped(self):
        text = "roster ann bob\ndeed cast tea 10\nwhole 20\npart oak bob 20 0 ann 1/3 bob 2/3\ndeed still\nwhole 0"
        signs = [chr(code) for code in range(32, 127) if chr(code) != "%"] + ["\n"]
        found = set()
        for at in range(len(text) + 1):
            tries = [text[:at] + text[at + 1:]]
            for sign in signs:
                tries += [text[:at] + sign + text[at:], text[:at] + sign + text[at + 1:]]
            for wrong in tries:
                try:
                    awaited = plain_paper(wrong)
                except BadPaper:
                    self.refused(wrong)
                else:
                    self.assertEqual(read_paper(wrong), awaited)
                    self.assertEqual(written(*awaited), wrong)
                    found.add(wrong)
        self.assertGreater(len(found), 500)


class InterfaceTest(unittest.TestCase):
    def test_names_and_arguments(self):
        awaited = {"account": ["voyage"], "written": ["roster", "entries"], "read_paper": ["text"]}
        for name, arguments in awaited.items():
            self.assertEqual(list(inspect.signature(getattr(papers, name)).parameters), arguments)


if __name__ == "__main__":
    unittest.main()
