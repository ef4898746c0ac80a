import inspect
import random
import unittest

from jettison import deeds
from jettison.deeds import perform, read, shown, sound
from jettison.errors import BadName, BadNumber, BadRows, JettisonError, NoDeed, NoOwner, NoPart, TooMuch, Twice
from jettison.hold import Hold
from plain import seen

MOST = 10 ** 9
NO_NAMES = ["", "Tea", "tea1", "te a", "tea ", " tea", "tea\n", "abcdefghi", "-", "1", 1, 0, 7, -1]
NO_NUMBERS = ["", "tea", "1", "30", "x"]

# One sound deed of each form, and what stands at each place behind the word: n a name, a an amount, w a weight.
FORMS = [
    (("load", "tea", "ann", 30, 2), "nnaw"),
    (("cast", "tea", 30), "na"),
    (("cast", "tea", 30, "oak", 2), "nana"),
    (("cast", "tea", 30, "tea", 2, "oak", 1), "nanana"),
    (("award", "ann", 5), "na"),
    (("mishap", "tea", 5), "na"),
    (("rise", "tea", 5), "na"),
    (("hand", "tea", "bob"), "nn"),
    (("land", "tea"), "n"),
    (("sever", "tea", "leaf", 5, 1), "nnaw"),
    (("still",), ""),
]
WORDS = ["load", "cast", "award", "mishap", "rise", "hand", "land", "sever", "still"]


def swapped(deed, at, thing):
    return deed[:at] + (thing,) + deed[at + 1:]


def small():
    hold = Hold()
    for owner in ("ann", "bob"):
        hold.sign(owner)
    hold.load("tea", "ann", 100, 5)
    hold.load("oak", "bob", 300, 20)
    return hold


class SoundTest(unittest.TestCase):
    def is_sound(self, deed):
        self.assertIs(sound(deed), True, deed)

    def is_none(self, deed):
        self.assertIs(sound(deed), False, deed)

    def test_each_word(self):
        for deed, places in FORMS:
            self.is_sound(deed)
            self.assertEqual(len(places), len(deed) - 1)
        self.assertEqual(sorted({deed[0] for deed, places in FORMS}), sorted(WORDS))

    def test_names(self):
        for deed, places in FORMS:
            for at, kind in enumerate(places, 1):
                if kind == "n":
                    for name in ("a", "z", "abcdefgh", "still", "cast"):
                        self.is_sound(swapped(deed, at, name))
                    for name in NO_NAMES:
                        self.is_none(swapped(deed, at, name))

    def test_numbers_at_and_beyond_the_bounds(self):
        for deed, places in FORMS:
            for at, kind in enumerate(places, 1):
                if kind != "n":
                    for number in (1, 2, MOST - 1, MOST):
                        self.is_sound(swapped(deed, at, number))
                    for number in (MOST + 1, 10 ** 12, 10 ** 40 - 1, -1, -MOST, -10 ** 12):
                        self.is_none(swapped(deed, at, number))
                    self.assertIs(sound(swapped(deed, at, 0)), kind == "w")
                    for text in NO_NUMBERS:
                        self.is_none(swapped(deed, at, text))

    def test_things_more_and_fewer(self):
        for deed, places in FORMS:
            for thing in ("tea", 1, 0, ""):
                self.is_none(deed + (thing,))
            for at in range(1, len(deed)):
                self.is_none(deed[:at] + deed[at + 1:])
            if deed[0] != "cast":
                self.is_none(deed + ("tea", 1))
        for word in WORDS:
            self.assertIs(sound((word,)), word == "still")

    def test_a_cast(self):
        self.is_none(("cast",))
        self.is_none(("cast", "tea"))
        self.is_none(("cast", 30))
        self.is_none(("cast", 30, "tea"))
        self.is_none(("cast", "tea", 30, "oak"))
        self.is_none(("cast", "tea", 30, 2))
        self.is_none(("cast", "tea", "oak", 30, 2))
        self.is_sound(("cast", "tea", 1, "tea", 1))
        self.is_sound(("cast",) + ("tea", 1, "oak", MOST) * 49 + ("rum", 2))
        self.assertEqual(len(("cast",) + ("tea", 1, "oak", MOST) * 49 + ("rum", 2)), 199)
        self.is_none(("cast",) + ("tea", 1) * 99 + ("rum",))
        self.is_none(("cast",) + ("tea", 1) * 98 + ("rum", 0))

    def test_another_first_word(self):
        for word in ("", "sign", "Cast", "casts", "cas", "cast ", " cast", "CAST", "begin", "do", "name", "1", "stills"):
            self.is_none((word,))
            for deed, places in FORMS:
                self.is_none((word,) + deed[1:])


class PerformTest(unittest.TestCase):
    def test_each_word_does_what_the_hold_does(self):
        for deed, rows in (
            (("load", "rum", "ann", 30, 2), None),
            (("cast", "tea", 30), [("tea", 30)]),
            (("cast", "oak", 30, "tea", 100), [("oak", 30), ("tea", 100)]),
            (("award", "ann", 5), None),
            (("mishap", "tea", 5), None),
            (("rise", "tea", 5), None),
            (("hand", "tea", "bob"), None),
            (("land", "tea"), None),
            (("sever", "oak", "leaf", 50, 7), None),
        ):
            hold, other = small(), small()
            self.assertIsNone(perform(hold, deed))
            getattr(other, deed[0])(*([rows] if rows else deed[1:]))
            self.assertEqual(seen(hold), seen(other))
            self.assertNotEqual(seen(hold), seen(small()))

    def test_still_does_nothing(self):
        hold = small()
        self.assertIsNone(perform(hold, ("still",)))
        self.assertEqual(seen(hold), seen(small()))

    def test_great_worths(self):
        hold = small()
        perform(hold, ("load", "gold", "bob", MOST, MOST))
        self.assertEqual(hold.parts()[-1], ("gold", "bob", MOST, MOST))

    def refused(self, error, deed):
        hold = small()
        with self.assertRaises(error) as caught:
            perform(hold, deed)
        self.assertIs(type(caught.exception), error, deed)
        self.assertEqual(seen(hold), seen(small()), deed)

    def test_refused_by_the_hold(self):
        self.refused(Twice, ("load", "tea", "ann", 1, 0))
        self.refused(NoOwner, ("load", "rum", "cid", 1, 0))
        self.refused(NoPart, ("cast", "rum", 1))
        self.refused(TooMuch, ("cast", "tea", 101))
        self.refused(TooMuch, ("cast", "tea", 100, "oak", 300))
        self.refused(BadRows, ("cast", "tea", 1, "oak", 1, "tea", 1))
        self.refused(NoOwner, ("award", "cid", 1))
        self.refused(TooMuch, ("award", "ann", 400))
        self.refused(NoPart, ("mishap", "rum", 1))
        self.refused(TooMuch, ("mishap", "tea", 101))
        self.refused(NoPart, ("rise", "rum", 1))
        self.refused(NoPart, ("hand", "rum", "ann"))
        self.refused(NoOwner, ("hand", "tea", "cid"))
        self.refused(NoPart, ("land", "rum"))
        self.refused(NoPart, ("sever", "rum", "leaf", 1, 0))
        self.refused(Twice, ("sever", "tea", "oak", 1, 0))
        self.refused(TooMuch, ("sever", "tea", "leaf", 100, 0))

    def test_no_deed_ahead_of_all_else(self):
        for deed in (
            ("load", "Tea", "cid", 0, -1), ("load", "tea", "ann", 0, 0), ("load", "rum", "ann", 1, -1),
            ("load", "rum", "ann", MOST + 1, 0), ("load", "rum", "ann", 1, MOST + 1), ("cast",), ("cast", "rum", 0),
            ("cast", "tea", 0), ("cast", "tea", 1, "tea", 0), ("cast", "tea", MOST + 1), ("award", "cid", 0),
            ("award", "ann", MOST + 1), ("mishap", "rum", 0), ("mishap", "tea", 0), ("mishap", "tea", MOST + 1),
            ("rise", "tea", 0), ("rise", "tea", MOST + 1), ("hand", "Rum", "cid"), ("hand", "rum", ""), ("land", ""),
            ("land", "Tea"), ("land",), ("sever", "tea", "Leaf", 1, 0), ("sever", "tea", "oak", 0, 0), ("sign", "cid"),
            ("still", "still"), ("",), ("roster",), ("twin",), ("nothing", "tea", 1),
        ):
            self.refused(NoDeed, deed)

    def test_whatever_is_sound_is_refused_as_the_hold_refuses_it(self):
        chance = random.Random(11)
        names = ["tea", "oak", "ann", "bob", "rum"]
        found = set()
        for at in range(3000):
            word, places = chance.choice([(deed[0], places) for deed, places in FORMS if deed[0] != "still"])
            things = [chance.choice(names) if kind == "n" else chance.choice([1, 50, 100, 101, 400]) for kind in places]
            hold, other = small(), small()
            handed = [list(zip(things[::2], things[1::2]))] if word == "cast" else things
            told = []
            for call in (lambda: perform(hold, (word, *things)), lambda: getattr(other, word)(*handed)):
                try:
                    told.append(call())
                except JettisonError as error:
                    told.append(type(error))
            self.assertEqual(told[0], told[1], (word, things))
            self.assertEqual(seen(hold), seen(other))
            found.add(told[0])
        self.assertEqual(found, {None, Twice, NoOwner, NoPart, TooMuch, BadRows})
        self.assertNotIn(BadName, found)
        self.assertNotIn(BadNumber, found)


class TextTest(unittest.TestCase):
    def test_shown(self):
        for deed, text in (
            (("load", "tea", "ann", 30, 0), "load tea ann 30 0"),
            (("cast", "tea", 30, "oak", 2), "cast tea 30 oak 2"),
            (("cast", "tea", 1, "tea", MOST), "cast tea 1 tea 1000000000"),
            (("award", "ann", 5), "award ann 5"),
            (("mishap", "tea", 10), "mishap tea 10"),
            (("rise", "tea", 100), "rise tea 100"),
            (("hand", "tea", "bob"), "hand tea bob"),
            (("land", "tea"), "land tea"),
            (("sever", "tea", "leaf", MOST, MOST), "sever tea leaf 1000000000 1000000000"),
            (("still",), "still"),
        ):
            self.assertEqual(shown(deed), text)
            self.assertEqual(read(text), deed)
            self.assertIs(type(read(text)), tuple)
            self.assertEqual([type(thing) for thing in read(text)], [type(thing) for thing in deed])

    def test_there_and_back(self):
        for deed, places in FORMS:
            for number in (1, 9, 10, 123456789, MOST):
                things = [number if kind != "n" else thing for kind, thing in zip(places, deed[1:])]
                self.assertEqual(read(shown((deed[0], *things))), (deed[0], *things))
        long = ("cast",) + ("abcdefgh", MOST) * 99
        self.assertEqual(read(shown(long)), long)

    def is_none(self, text):
        with self.assertRaises(NoDeed) as caught:
            read(text)
        self.assertIs(type(caught.exception), NoDeed, text)

    def test_blanks_and_line_ends(self):
        for deed, places in FORMS:
            text = shown(deed)
            for wrong in (text + " ", " " + text, text + "\n", "\n" + text, text + "\t", text + "\n" + text):
                self.is_none(wrong)
            if " " in text:
                for sign in ("  ", "\n", " \n", "\n ", "\t", ""):
                    self.is_none(text.replace(" ", sign))
                    self.is_none(text.replace(" ", sign, 1))

    def test_the_text_without_signs(self):
        for text in ("", " ", "  ", "\n", "\n\n"):
            self.is_none(text)

    def test_numbers(self):
        for text in ("rise tea 05", "rise tea 00", "rise tea 0", "rise tea 1000000001", "rise tea -1", "rise tea +1",
                     "rise tea 1_0", "rise tea 1.0", "rise tea x", "rise tea 5/1", "rise tea " + "9" * 40,
                     "rise tea 0" + "9" * 8, "rise tea 10000000000", "load tea ann 1 00", "load tea ann 1 1000000001",
                     "load tea ann 01 0", "load tea ann 0 0", "sever tea leaf 1 -0", "cast tea 0", "cast tea 01",
                     "cast tea 1 oak 0", "rise tea 1" + "0" * 5000):
            self.is_none(text)
        self.assertEqual(read("load tea ann 1 0"), ("load", "tea", "ann", 1, 0))

    def test_names(self):
        for text in ("land Tea", "land tea1", "land abcdefghi", "land 5", "land -", "hand tea 7", "hand 7 tea",
                     "award 5 ann", "award 5 5", "load tea 5 5 5", "cast 5 tea", "LAND tea", "Land tea"):
            self.is_none(text)

    def test_words_more_and_fewer(self):
        for deed, places in FORMS:
            words = shown(deed).split(" ")
            for at in range(len(words)):
                self.is_none(" ".join(words[:at] + words[at + 1:]))
            for more in ("tea", "1", "0"):
                self.is_none(" ".join(words + [more]))

    def test_other_words(self):
        for text in ("tea", "sign ann", "5", "5 tea", "0", "do land tea", "stil", "stills", "still 0", "still still",
                     "cast", "cast tea", "load", "-"):
            self.is_none(text)

    def test_every_sign_put_in_makes_no_other_reading(self):
        signs = [chr(code) for code in range(32, 127) if chr(code) != "%"] + ["\n"]
        for text in ("cast tea 30", "land tea", "still"):
            for at in range(len(text) + 1):
                for sign in signs:
                    wrong = text[:at] + sign + text[at:]
                    try:
                        self.assertEqual(shown(read(wrong)), wrong)
                    except NoDeed:
                        continue


class InterfaceTest(unittest.TestCase):
    def test_names_and_arguments(self):
        awaited = {"sound": ["deed"], "perform": ["hold", "deed"], "shown": ["deed"], "read": ["text"]}
        for name, arguments in awaited.items():
            self.assertEqual(list(inspect.signature(getattr(deeds, name)).parameters), arguments)


if __name__ == "__main__":
    unittest.main()
