"""Point 25: a house of voyages."""

import inspect
import random
import time
import unittest

from jettison.errors import NoVoyage
from jettison.house import House
from jettison.papers import account
from jettison.survey import first_wrong
from jettison.voyage import Voyage
from plain import OWNERS, PARTS, PlainHouse, letters, seen_voyage

NO_NAMES = ["Nina", "nina1", "abcdefghi", "-", "5", "nina,", "nina\n", "\nnina", "ni\nna", "\n", "ni/na"]
LINES = [
    "begin nina", "sign nina ann", "sign nina bob", "sign nina cid", "do nina load tea ann 100 5",
    "do nina load oak bob 300 20", "do nina load silk ann 200 2",
]


def told(*lines):
    """A house that is told these, and none of them refused."""
    house = House()
    for line in LINES + list(lines):
        if house.tell(line).startswith("refused"):
            raise AssertionError(line)
    return house


def seen_house(house):
    return [(name, seen_voyage(house.voyage(name))) for name in house.voyages()]


class HouseTest(unittest.TestCase):
    def answers(self, house, line, awaited):
        answer = house.tell(line)
        self.assertEqual(answer, awaited, line)
        self.assertIs(type(answer), str)

    def refused(self, house, line, word):
        """Answered so, and all as it was."""
        ahead = seen_house(house)
        self.answers(house, line, "refused " + word)
        self.assertEqual(seen_house(house), ahead, line)


class VoyagesTest(HouseTest):
    def test_a_new_house(self):
        self.assertEqual(House().voyages(), [])

    def test_in_the_order_of_beginning(self):
        house = House()
        for name in ("pinta", "a", "nina", "abcdefgh"):
            self.answers(house, "begin " + name, "begun " + name)
        self.assertEqual(house.voyages(), ["pinta", "a", "nina", "abcdefgh"])

    def test_the_voyage_itself(self):
        house = told()
        voyage = house.voyage("nina")
        self.assertIsInstance(voyage, Voyage)
        self.assertIs(house.voyage("nina"), voyage)
        self.assertEqual(voyage.now().roster(), ["ann", "bob", "cid"])
        house.tell("do nina land tea")
        self.assertEqual(voyage.log()[-1], ("land", "tea"))
        self.assertIs(house.voyage("nina"), voyage)

    def test_no_voyage(self):
        for house in (House(), told()):
            for name in ("pinta", "", "ann", "Nina", "nina ", "begin"):
                with self.assertRaises(NoVoyage) as caught:
                    house.voyage(name)
                self.assertIs(type(caught.exception), NoVoyage)

    def test_told_names_are_the_callers_own(self):
        house = told("begin pinta")
        house.voyages().append("santa")
        house.voyages().clear()
        self.assertEqual(house.voyages(), ["nina", "pinta"])

    def test_what_is_done_by_hand_is_seen_by_the_next_line(self):
        house = told()
        voyage = house.voyage("nina")
        voyage.sign("dan")
        self.answers(house, "stake nina dan", "0/1")
        self.refused(house, "sign nina dan", "twice")
        self.assertEqual(voyage.do(("award", "dan", 60)), 3)
        self.answers(house, "stake nina dan", "60/1")
        self.answers(house, "do nina land oak", "done 4")
        voyage.put_in(0, ("still",))
        self.answers(house, "do nina still", "done 6")
        voyage.strike(6)
        self.answers(house, "undo nina", "undone 5")
        voyage.amend(1, ("load", "tea", "ann", 400, 5))
        self.answers(house, "whole nina", "900")
        voyage.do(("land", "oak"))
        self.assertEqual(voyage.settle(), [("bob", "dan", 20)])
        self.answers(house, "settle nina", "none")
        voyage.undo()
        self.answers(house, "settle nina", "dan bob 20")
        self.assertEqual(voyage.moved("dan"), 0)

    def test_what_now_told_is_not_seen(self):
        house = told()
        house.voyage("nina").now().land("tea")
        house.voyage("nina").twin().undo()
        self.answers(house, "whole nina", "600")

    def test_two_houses_share_nothing(self):
        one, other = told(), House()
        self.assertEqual(other.voyages(), [])
        self.answers(other, "begin nina", "begun nina")
        self.refused(other, "stake nina ann", "noowner")
        self.answers(other, "whole nina", "0")
        self.answers(other, "sign nina bob", "signed bob")
        self.answers(other, "do nina load tea bob 7 1", "done 0")
        self.answers(one, "whole nina", "600")
        self.answers(other, "begin pinta", "begun pinta")
        self.assertEqual(one.voyages(), ["nina"])
        self.assertIsNot(one.voyage("nina"), other.voyage("nina"))

    def test_two_voyages_of_one_house_share_nothing(self):
        house = told("begin pinta", "sign pinta ann", "do pinta load tea ann 9 1")
        self.answers(house, "whole pinta", "9")
        self.answers(house, "whole nina", "600")
        self.answers(house, "undo pinta", "undone 0")
        self.refused(house, "undo pinta", "nodeed")
        self.refused(house, "stake pinta bob", "noowner")
        self.answers(house, "undo nina", "undone 2")


class LinesTest(HouseTest):
    def test_begin(self):
        house = told()
        self.answers(house, "begin pinta", "begun pinta")
        self.assertEqual(seen_voyage(house.voyage("pinta")), seen_voyage(Voyage()))
        for name in NO_NAMES:
            self.refused(house, "begin " + name, "badname")
        for name in ("nina", "pinta"):
            self.refused(house, "begin " + name, "twice")

    def test_a_voyage_may_be_called_like_an_owner_or_a_word(self):
        house = told()
        for name in ("ann", "tea", "begin", "do", "undo", "still"):
            self.answers(house, "begin " + name, "begun " + name)
            self.answers(house, f"sign {name} sign", "signed sign")
        self.answers(house, "undo nina", "undone 2")

    def test_sign(self):
        house = told()
        self.answers(house, "sign nina dan", "signed dan")
        self.assertEqual(house.voyage("nina").now().roster(), ["ann", "bob", "cid", "dan"])
        for name in ("pinta", *NO_NAMES):
            for owner in ("eve", "ann", "Eve"):
                self.refused(house, f"sign {name} {owner}", "novoyage")
        for owner in NO_NAMES:
            self.refused(house, "sign nina " + owner, "badname")
        for owner in ("ann", "dan"):
            self.refused(house, "sign nina " + owner, "twice")

    def test_do(self):
        house = told()
        for at, (line, whole) in enumerate((
            ("cast tea 60 oak 30", 510), ("award cid 17", 510), ("hand silk bob", 510), ("sever oak plank 100 7", 510),
            ("mishap tea 10", 500), ("still", 500), ("rise silk 3", 503), ("land plank", 403),
            ("load rum cid 9 0", 412),
        ), 3):
            self.answers(house, "do nina " + line, f"done {at}")
            self.answers(house, "whole nina", str(whole))
        self.assertEqual(house.voyage("nina").log()[3], ("cast", "tea", 60, "oak", 30))

    def test_do_without_a_voyage(self):
        house = told()
        for name in ("pinta", *NO_NAMES):
            for rest in ("still", "land tea", "land Tea", "nonsense", "cast", "5"):
                self.refused(house, f"do {name} {rest}", "novoyage")

    def test_do_what_writes_no_deed(self):
        house = told()
        for rest in ("cast", "cast tea", "cast tea 0", "cast tea 01", "cast tea 1 oak", "sign dan", "land Tea", "land",
                     "rise tea 1000000001", "load tea ann 5", "load tea ann 5 5 5", "still still", "stil", "5", "-",
                     "land tea\n", "land\ntea", "still\n", "rise rum 0", "award dan 0", "do nina still", "undo nina",
                     "mishap tea " + "9" * 40, "mishap tea " + "9" * 380):
            self.refused(house, "do nina " + rest, "nodeed")

    def test_do_what_the_hold_refuses(self):
        house = told()
        for rest, word in (
            ("load tea ann 1 1", "twice"), ("load rum dan 1 1", "noowner"), ("cast rum 1", "nopart"),
            ("cast tea 1 tea 1", "badrows"), ("cast tea 101", "toomuch"), ("cast tea 100 oak 300 silk 200", "toomuch"),
            ("award dan 1", "noowner"), ("award ann 600", "toomuch"), ("mishap rum 1", "nopart"),
            ("mishap tea 101", "toomuch"), ("rise rum 1", "nopart"), ("hand rum dan", "nopart"),
            ("hand tea dan", "noowner"), ("land rum", "nopart"), ("sever rum oak 1 0", "nopart"),
            ("sever tea oak 1 0", "twice"), ("sever tea leaf 100 0", "toomuch"),
        ):
            self.refused(house, "do nina " + rest, word)

    def test_undo(self):
        house = told("do nina land tea")
        for at in (3, 2, 1, 0):
            self.answers(house, "undo nina", f"undone {at}")
            self.assertEqual(len(house.voyage("nina").log()), at)
        for again in range(2):
            self.refused(house, "undo nina", "nodeed")
        for name in ("pinta", *NO_NAMES):
            self.refused(house, "undo " + name, "novoyage")

    def test_whole(self):
        house = told()
        self.answers(house, "whole nina", "600")
        house.tell("begin pinta")
        self.answers(house, "whole pinta", "0")
        for at in range(20):
            house.tell("do nina rise tea 1000000000")
        self.answers(house, "whole nina", "20000000600")
        for name in ("santa", *NO_NAMES):
            self.refused(house, "whole " + name, "novoyage")

    def test_stake(self):
        house = told()
        for owner, stake in (("ann", "300/1"), ("bob", "300/1"), ("cid", "0/1")):
            self.answers(house, "stake nina " + owner, stake)
        house.tell("do nina award cid 7")
        self.answers(house, "stake nina ann", "593/2")
        self.answers(house, "stake nina cid", "7/1")
        for owner in ("dan", "tea", *NO_NAMES):
            self.refused(house, "stake nina " + owner, "noowner")
        for name in ("pinta", *NO_NAMES):
            for owner in ("ann", "dan"):
                self.refused(house, f"stake {name} {owner}", "novoyage")

    def test_settle(self):
        house = told()
        self.answers(house, "settle nina", "none")
        for line in ("do nina cast tea 7", "do nina land oak"):
            house.tell(line)
        self.answers(house, "settle nina", "bob ann 3, bob - 1")
        self.answers(house, "settle nina", "none")
        self.assertEqual(house.voyage("nina").chest(), 1)
        house.tell("do nina award cid 30")
        house.tell("do nina land silk")
        self.answers(house, "settle nina", "ann cid 20")
        self.assertEqual(house.voyage("nina").chest(), 1)
        for at in range(4):
            house.tell("undo nina")
        self.answers(house, "settle nina", "cid ann 17, cid bob 3, - bob 1")
        self.answers(house, "settle nina", "none")
        self.assertEqual(house.voyage("nina").chest(), 0)
        for name in ("pinta", *NO_NAMES):
            self.refused(house, "settle " + name, "novoyage")

    def test_settle_without_owners(self):
        house = House()
        house.tell("begin nina")
        self.answers(house, "settle nina", "none")


class FormTest(HouseTest):
    """Lines that are none, answered ahead of all else."""

    RIGHT = ["begin pinta", "sign nina dan", "do nina still", "do nina land tea", "do nina cast tea 1 oak 2",
             "undo nina", "whole nina", "stake nina ann", "settle nina"]

    def test_another_first_word(self):
        for house in (House(), told()):
            for line in ("Begin nina", "BEGIN nina", "begins nina", "amend nina", "found nina", "log nina", "nina",
                         "load tea ann 1 1", "doo nina still", "un nina", "-", "5", "refused nodeed", "done 3", "still",
                         "voyage nina", "moved nina ann", "chest nina", "begin\nnina", "begin\tnina", "sign\nnina dan",
                         "\n", "\n\n", "\nbegin pinta", "undo\nnina", "twin nina", "answer nina", "tell nina"):
                self.refused(house, line, "nodeed")

    def test_words_more_and_fewer(self):
        for house in (House(), told()):
            for line in ("begin", "sign", "do", "undo", "whole", "stake", "settle", "begin pinta nina",
                         "begin Pinta nina", "begin nina nina", "sign nina", "sign santa", "sign nina dan eve",
                         "sign santa dan eve", "do nina", "do santa", "undo nina 2", "undo santa 2", "whole nina ann",
                         "stake nina", "stake santa", "stake nina ann bob", "settle nina ann", "settle santa nina"):
                self.refused(house, line, "nodeed")

    def test_no_sign_at_all_and_blanks(self):
        for house in (House(), told()):
            for line in ("", " ", "  ", "   "):
                self.refused(house, line, "nodeed")
            for line in self.RIGHT + ["begin nina", "whole santa", "do santa still", "stake nina eve", "sign nina Dan"]:
                for wrong in (line + " ", " " + line, line.replace(" ", "  "), line.replace(" ", "  ", 1),
                              " " + line + " ", "  " + line, line + "  "):
                    self.refused(house, wrong, "nodeed")

    def test_the_right_ones(self):
        for line in self.RIGHT:
            self.assertFalse(told().tell(line).startswith("refused"), line)

    def test_a_line_end_within_a_line(self):
        house = told()
        for line, word in (
            ("begin pinta\n", "badname"), ("begin \npinta", "badname"), ("sign nina dan\n", "badname"),
            ("sign nina\n dan", "novoyage"), ("do nina still\n", "nodeed"), ("do nina\n still", "novoyage"),
            ("do nina land\n tea", "nodeed"), ("undo nina\n", "novoyage"), ("whole nina\n", "novoyage"),
            ("stake nina ann\n", "noowner"), ("stake nina\nann", "nodeed"), ("settle nina\n", "novoyage"),
            ("do nina\nstill", "nodeed"), ("whole nina\nwhole nina", "nodeed"), ("begin pinta\nbegin santa", "nodeed"),
        ):
            self.refused(house, line, word)

    def test_reasons_in_their_order_where_two_hold_at_once(self):
        house = told()
        for line, word in (
            ("begin Nina nina", "nodeed"), ("sign pinta Ann", "novoyage"), ("sign pinta ann", "novoyage"),
            ("do pinta land Tea", "novoyage"), ("do pinta land rum", "novoyage"), ("do nina land Rum", "nodeed"),
            ("do nina load tea dan 0 0", "nodeed"), ("do nina load tea dan 1 0", "twice"),
            ("do nina cast rum 1 rum 1000", "badrows"), ("do nina cast rum 1 tea 1000", "nopart"),
            ("do nina cast tea 1000 rum 1", "toomuch"), ("do nina award dan 600", "noowner"),
            ("do nina hand rum dan", "nopart"), ("do nina sever rum tea 1000 1000", "nopart"),
            ("do nina sever tea oak 1000 1000", "twice"), ("stake pinta dan", "novoyage"), ("undo pinta", "novoyage"),
            ("stake pinta dan dan", "nodeed"), ("do pinta", "nodeed"), (" sign pinta Ann", "nodeed"),
        ):
            self.refused(house, line, word)


class DrawnTest(HouseTest):
    def drawn_line(self, chance):
        voyage = chance.choice(["nina", "nina", "pinta", "santa", "Nina", ""])
        owner, part, fresh = chance.choice(OWNERS), chance.choice(PARTS[:5]), chance.choice(PARTS[:5])
        amount = chance.choice([0, 1, 3, 9, 40])
        line = chance.choice([
            f"begin {voyage}", f"sign {voyage} {owner}", f"undo {voyage}", f"whole {voyage}", f"stake {voyage} {owner}",
            f"settle {voyage}", f"settle {voyage}", f"do {voyage} load {part} {owner} {amount * 9} {amount}",
            f"do {voyage} load {part} {owner} {amount * 7} 1", f"do {voyage} cast {part} {amount}",
            f"do {voyage} cast {part} {amount} {fresh} 2", f"do {voyage} award {owner} {amount}",
            f"do {voyage} award {owner} {amount}", f"do {voyage} land {part}", f"do {voyage} hand {part} {owner}",
            f"do {voyage} mishap {part} {amount}", f"do {voyage} sever {part} {fresh} {amount} 0", f"do {voyage} still",
        ])
        if chance.random() < 0.1:
            at = chance.randrange(len(line) + 1)
            line = line[:at] + chance.choice([" ", "\n", "a", "0", "-"]) + line[at + chance.randint(0, 1):]
        return line

    def test_against_the_plain_house(self):
        found = set()
        for seed in range(60):
            chance = random.Random(seed)
            house, plain = House(), PlainHouse()
            for line in LINES[:4] + ["begin pinta", "sign pinta ann"]:
                self.assertEqual(house.tell(line), plain.tell(line))
            for at in range(80):
                line = self.drawn_line(chance)
                answer = house.tell(line)
                self.assertEqual(answer, plain.tell(line), (seed, at, line))
                words = answer.split(" ")
                found.add(" ".join(words[:2]) if words[0] == "refused" else line.split(" ")[0])
            self.assertEqual(seen_house(house), seen_house(plain))
        refusals = "badname twice noowner nopart novoyage toomuch badrows nodeed".split()
        self.assertLessEqual({"refused " + word for word in refusals}, found)
        self.assertLessEqual(set("begin sign do undo whole stake settle".split()), found)


class GreatTest(HouseTest):
    """Points 2 and 25: long lines and logs, and long answers, are to be reckoned, too."""

    def test_a_cast_of_forty_parts_a_log_of_two_hundred_and_the_first_deed_amended(self):
        began = time.monotonic()
        house = House()
        house.tell("begin v")
        for at in range(40):
            self.answers(house, "sign v " + letters(at), "signed " + letters(at))
        for at in range(60):
            self.answers(house, f"do v load {letters(at)} {letters(at % 40)} {10 ** 9 - at} {at}", f"done {at}")
        cast = "do v cast " + " ".join(f"{letters(at)} {10 ** 4 + at}" for at in range(40))
        self.assertLessEqual(len(cast), 400)
        self.answers(house, cast, "done 60")
        lost = sum(10 ** 4 + at for at in range(40))
        whole = sum(10 ** 9 - at for at in range(60)) - lost
        self.answers(house, "whole v", str(whole))
        for at in range(61, 200):
            part = letters(at % 60)
            line = (f"cast {part} {at}", f"award {letters(at % 40)} {10 ** 9 - at}", f"hand {part} {letters(at % 37)}",
                    f"rise {part} {10 ** 9 - 7 * at}")[at % 4]
            self.answers(house, "do v " + line, f"done {at}")
        voyage = house.voyage("v")
        self.assertEqual(len(voyage.log()), 200)
        before = house.tell("whole v")
        voyage.amend(0, ("load", letters(0), letters(1), 10 ** 9 - 5, 1))
        self.answers(house, "whole v", str(int(before) - 5))
        for at in range(40):
            self.assertRegex(house.tell("stake v " + letters(at)), r"\A[0-9]+/[0-9]+\Z")
        self.assertLess(time.monotonic() - began, 8)
        roster, entries = account(voyage)
        self.assertIsNone(first_wrong(roster, entries))
        self.assertLess(time.monotonic() - began, 30)

    def deed(self, at):
        """An award three times of four, and a rise that makes the whole another one."""
        owner = ("ann", "bob", "cid")[at % 3]
        return f"award {owner} {10 ** 9 - 13 * at * at}" if at % 4 else f"rise oak {10 ** 9 - 7 * at * at}"

    def test_a_fraction_of_more_than_a_thousand_figures(self):
        house, plain = told(), PlainHouse()
        for line in LINES:
            plain.tell(line)
        for at in range(197):
            self.answers(house, "do nina " + self.deed(at), f"done {at + 3}")
        plain.voyage("nina").deeds = house.voyage("nina").log()
        self.assertEqual(len(plain.voyage("nina").deeds), 200)
        for owner in ("ann", "bob", "cid"):
            answer = house.tell("stake nina " + owner)
            self.assertGreater(min(len(side) for side in answer.split("/")), 1000)
            self.assertEqual(answer, plain.tell("stake nina " + owner))

    def test_a_fraction_of_more_figures_than_python_writes_at_once(self):
        house = told("do nina rise oak 1000000000")
        for at in range(1, 800):
            self.answers(house, "do nina " + self.deed(at), f"done {at + 3}")
        hold = house.voyage("nina").now()
        top, bottom = house.tell("stake nina cid").split("/")
        self.assertGreater(len(bottom), 4400)
        self.assertEqual([group_value(side) for side in (top, bottom)], list(hold.stake("cid")))


def group_value(figures):
    """The whole number of these figures, a hundred at a time: Python reads no more than some thousand at once."""
    value = 0
    for at in range(0, len(figures), 100):
        group = figures[at:at + 100]
        value = value * 10 ** len(group) + int(group)
    return value


class InterfaceTest(unittest.TestCase):
    def test_names_and_arguments(self):
        for name, arguments in {"tell": ["line"], "voyage": ["name"], "voyages": []}.items():
            self.assertEqual(list(inspect.signature(getattr(House(), name)).parameters), arguments)
        self.assertEqual(list(inspect.signature(House).parameters), [])


if __name__ == "__main__":
    unittest.main()
