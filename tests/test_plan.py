import inspect
import itertools
import random
import unittest

from jettison import plan
from jettison.hold import Hold
from jettison.plan import lighten
from plain import seen

NAMES = ["tea", "oak", "silk", "rum", "rye", "salt", "wool", "keel", "mast", "sail", "hemp", "tar", "pitch", "figs"]


def held(rows):
    """A hold with parts of these worths and weights."""
    hold = Hold()
    hold.sign("ann")
    hold.sign("bob")
    for at, (name, (worth, weight)) in enumerate(zip(NAMES, rows)):
        hold.load(name, ("ann", "bob")[at % 2], worth, weight)
    return hold


def least(rows, tons):
    """The least sum of worths, by all choices; None where there is none."""
    sums = []
    for many in range(len(rows)):
        for choice in itertools.combinations(rows, many):
            if sum(weight for worth, weight in choice) >= tons:
                sums.append(sum(worth for worth, weight in choice))
    return min(sums) if sums else None


class LightenTest(unittest.TestCase):
    def right(self, rows, tons):
        hold = held(rows)
        ahead = seen(hold)
        told = lighten(hold, tons)
        self.assertEqual(seen(hold), ahead)
        awaited = least(rows, tons)
        if awaited is None:
            self.assertIsNone(told, (rows, tons))
            return
        self.assertIs(type(told), list)
        aboard = {name: (worth, weight) for name, owner, worth, weight in hold.parts()}
        self.assertEqual(told, [name for name in aboard if name in told], (rows, tons))
        self.assertLess(len(told), len(aboard))
        self.assertGreaterEqual(sum(aboard[name][1] for name in told), tons, (rows, tons))
        self.assertEqual(sum(aboard[name][0] for name in told), awaited, (rows, tons))

    def test_ordinary(self):
        hold = held([(100, 5), (30, 5), (40, 3), (20, 2)])
        self.assertEqual(lighten(hold, 4), ["oak"])
        self.assertEqual(lighten(hold, 2), ["rum"])
        self.assertEqual(lighten(hold, 6), ["oak", "rum"])
        self.assertEqual(lighten(hold, 8), ["oak", "silk"])
        self.assertEqual(lighten(hold, 10), ["oak", "silk", "rum"])
        self.assertEqual(lighten(hold, 13), ["tea", "oak", "silk"])
        self.assertIsNone(lighten(hold, 14))

    def test_no_part(self):
        empty = Hold()
        for tons in (0, 1, 10 ** 12):
            self.assertIsNone(lighten(empty, tons))
        gone = held([(5, 5)])
        gone.land("tea")
        self.assertIsNone(lighten(gone, 0))

    def test_no_tons(self):
        for rows in ([(1, 0)], [(5, 7)], [(5, 0), (6, 0)], [(3, 3)] * 12):
            told = lighten(held(rows), 0)
            self.assertEqual(told, [])
            self.assertIs(type(told), list)

    def test_one_part(self):
        for tons in (1, 5, 6, 10 ** 12):
            self.assertIsNone(lighten(held([(9, 5)]), tons))

    def test_two_parts(self):
        hold = held([(9, 5), (8, 4)])
        self.assertEqual(lighten(hold, 4), ["oak"])
        self.assertEqual(lighten(hold, 5), ["tea"])
        for tons in (6, 9, 10):
            self.assertIsNone(lighten(hold, tons))

    def test_more_tons_than_can_be_had_without_casting_all(self):
        rows = [(4, 2), (1, 7), (6, 1)]
        self.assertEqual(lighten(held(rows), 9), ["tea", "oak"])
        for tons in (10, 11, 10 ** 12):
            self.assertIsNone(lighten(held(rows), tons))

    def test_a_part_without_weight_lets_all_others_go(self):
        self.assertEqual(lighten(held([(4, 2), (1, 0), (6, 1)]), 3), ["tea", "silk"])
        self.assertEqual(lighten(held([(1, 0), (4, 2)]), 2), ["oak"])

    def test_parts_of_weight_nought(self):
        self.assertIsNone(lighten(held([(5, 0), (6, 0), (7, 0)]), 1))
        self.assertEqual(lighten(held([(1, 0), (6, 3), (7, 0)]), 1), ["oak"])

    def test_several_least_ones(self):
        self.right([(5, 2), (5, 2), (5, 2)], 2)
        self.right([(5, 2), (5, 2), (5, 2)], 4)
        self.right([(3, 1), (3, 1), (6, 2), (1, 0)], 2)

    def test_all_small_ones(self):
        for many in range(4):
            for worths in itertools.product((1, 2, 3), repeat=many):
                for weights in itertools.product((0, 1, 2), repeat=many):
                    for tons in range(sum(weights) + 2):
                        self.right(list(zip(worths, weights)), tons)

    def test_drawn_ones(self):
        for seed in range(60):
            chance = random.Random(seed)
            rows = [(chance.randint(1, 50), chance.randint(0, 30)) for at in range(chance.randint(4, 8))]
            for tons in range(0, sum(weight for worth, weight in rows) + 2, 7):
                self.right(rows, tons)

    def test_twelve_parts(self):
        for seed in range(6):
            chance = random.Random(seed)
            rows = [(chance.randint(1, 10 ** 12), chance.randint(0, 10 ** 12)) for at in range(12)]
            whole = sum(weight for worth, weight in rows)
            for tons in (1, whole // 3, whole // 2, whole - min(weight for worth, weight in rows), whole):
                self.right(rows, tons)

    def test_somewhat_more_parts(self):
        self.right([(3 ** at, 2 ** at) for at in range(14)], 5000)

    def test_behind_other_deeds(self):
        hold = held([(50, 5), (30, 5), (40, 3), (20, 2)])
        hold.cast([("rum", 20)])
        hold.land("silk")
        hold.sever("tea", "leaf", 10, 4)
        self.assertEqual(lighten(hold, 3), ["leaf"])
        self.assertEqual(lighten(hold, 5), ["oak"])
        self.assertEqual(lighten(hold, 9), ["oak", "leaf"])

    def test_no_other_choice_leaves_a_greater_stake(self):
        rows = [(50, 5), (30, 6), (40, 3), (20, 2)]
        hold = held(rows)
        for tons in range(1, 14):
            cast = hold.twin()
            worths = {row[0]: row[2] for row in hold.parts()}
            cast.cast([(name, worths[name]) for name in lighten(hold, tons)])
            for many in (1, 2, 3):
                for names in itertools.combinations(NAMES[:4], many):
                    if sum(row[3] for row in hold.parts() if row[0] in names) >= tons:
                        other = hold.twin()
                        other.cast([(name, worths[name]) for name in names])
                        self.assertLessEqual(other.stake("ann")[0] * cast.stake("ann")[1],
                                             cast.stake("ann")[0] * other.stake("ann")[1])

    def test_the_told_list_is_the_callers_own(self):
        hold = held([(9, 5), (8, 4)])
        lighten(hold, 4).append("tea")
        lighten(hold, 0).append("tea")
        self.assertEqual((lighten(hold, 4), lighten(hold, 0)), (["oak"], []))


class InterfaceTest(unittest.TestCase):
    def test_names_and_arguments(self):
        self.assertEqual(list(inspect.signature(plan.lighten).parameters), ["hold", "tons"])


if __name__ == "__main__":
    unittest.main()
