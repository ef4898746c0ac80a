import copy
import inspect
import itertools
import unittest
from fractions import Fraction

from jettison import table
from jettison.table import gift, mix, stakes

ONE = (1, 1)
NONE = (0, 1)

# Each row comes to one; in the third table there are fractions below nought, a part worth 0, and one row twice.
TABLES = [
    ([[ONE, NONE], [NONE, ONE]], [100, 300]),
    ([[(1, 2), (1, 3), (1, 6)]], [7]),
    ([[(3, 2), (-1, 2)], [(-1, 3), (4, 3)], [(1, 2), (1, 2)], [(1, 2), (1, 2)]], [5, 0, 12, 1]),
    ([[ONE, NONE, NONE], [NONE, ONE, NONE], [NONE, (1, 4), (3, 4)], [(2, 5), (2, 5), (1, 5)]], [10, 4, 9, 6]),
    ([[ONE], [ONE]], [10 ** 12, 10 ** 12 - 1]),
    ([[(1, 10 ** 40), (10 ** 40 - 1, 10 ** 40)], [(2, 7), (5, 7)]], [10 ** 12, 3]),
]


def fraction(a):
    return Fraction(a[0], a[1])


def pair(value):
    return (value.numerator, value.denominator)


def amounts_for(worths):
    """Ways to cast: nothing, all of one part, bits of all, where less than the whole is cast."""
    ways = [[0] * len(worths), [worth // 2 for worth in worths], [worth // 3 for worth in worths]]
    for at in range(len(worths)):
        ways.append([worth if k == at else 0 for k, worth in enumerate(worths)])
        ways.append([0 if k == at else worth for k, worth in enumerate(worths)])
    return [way for way in ways if sum(way) < sum(worths)]


def small_casts(worths):
    return [list(way) for way in itertools.product(*[range(min(worth, 3) + 1) for worth in worths])]


def plain_stakes(rows, worths, many):
    return [pair(sum((worth * fraction(row[at]) for row, worth in zip(rows, worths)), Fraction(0)))
            for at in range(many)]


def plain_mix(rows, worths, amounts):
    whole, lost = sum(worths), sum(amounts)
    mixed = []
    for row in rows:
        fresh = []
        for at, share in enumerate(row):
            value = fraction(share) * (whole - lost) / whole
            for other, amount in zip(rows, amounts):
                value += Fraction(amount, whole) * fraction(other[at])
            fresh.append(pair(value))
        mixed.append(fresh)
    return mixed


def plain_gift(rows, worths, place, amount):
    whole = sum(worths)
    return [[pair(fraction(share) * (whole - amount) / whole + (Fraction(amount, whole) if at == place else 0))
             for at, share in enumerate(row)] for row in rows]


class TableTest(unittest.TestCase):
    def same(self, told, awaited):
        """Beside the values the kinds: lists of lists of tuples of ints, where True would be equal to 1."""
        self.assertEqual(told, awaited)
        self.assertIs(type(told), list)
        for row in told:
            self.assertIs(type(row), list)
            self.kinds(row)

    def kinds(self, row):
        for a in row:
            self.assertIs(type(a), tuple)
            self.assertEqual([type(thing) for thing in a], [int, int])

    def comes_to_one(self, rows):
        for row in rows:
            self.assertEqual(sum(fraction(a) for a in row), 1)


class StakesTest(TableTest):
    def told(self, rows, worths, many, awaited):
        told = stakes(rows, worths, many)
        self.assertEqual(told, awaited)
        self.assertIs(type(told), list)
        self.kinds(told)

    def test_without_parts(self):
        self.told([], [], 0, [])
        self.told([], [], 1, [NONE])
        self.told([], [], 3, [NONE, NONE, NONE])

    def test_without_owners(self):
        self.told([[], []], [5, 6], 0, [])

    def test_ordinary(self):
        self.told([[ONE, NONE], [NONE, ONE]], [100, 300], 2, [(100, 1), (300, 1)])
        self.told([[(1, 2), (1, 2)], [(1, 3), (2, 3)]], [3, 2], 2, [(13, 6), (17, 6)])

    def test_a_worth_of_nought(self):
        self.told([[ONE, NONE], [NONE, ONE]], [0, 8], 2, [NONE, (8, 1)])
        self.told([[(1, 2), (1, 2)]], [0], 2, [NONE, NONE])

    def test_fractions_below_nought(self):
        self.told([[(3, 2), (-1, 2)]], [4], 2, [(6, 1), (-2, 1)])
        self.told([[(-1, 3), (4, 3)], [(1, 3), (2, 3)]], [5, 5], 2, [NONE, (10, 1)])

    def test_each_table(self):
        for rows, worths in TABLES:
            self.told(rows, worths, len(rows[0]), plain_stakes(rows, worths, len(rows[0])))

    def test_they_come_to_the_whole(self):
        for rows, worths in TABLES:
            self.assertEqual(sum(fraction(a) for a in stakes(rows, worths, len(rows[0]))), sum(worths))


class MixTest(TableTest):
    def test_ordinary(self):
        self.same(mix([[ONE, NONE], [NONE, ONE]], [100, 300], [100, 0]), [[ONE, NONE], [(1, 4), (3, 4)]])
        self.same(mix([[ONE, NONE], [NONE, ONE]], [10, 30], [4, 4]), [[(9, 10), (1, 10)], [(1, 10), (9, 10)]])

    def test_amounts_of_nought(self):
        for rows, worths in TABLES:
            self.same(mix(rows, worths, [0] * len(rows)), rows)

    def test_all_of_a_part(self):
        self.same(
            mix([[ONE, NONE, NONE], [NONE, ONE, NONE], [NONE, NONE, ONE]], [1, 2, 3], [0, 2, 0]),
            [[(2, 3), (1, 3), NONE], [NONE, ONE, NONE], [NONE, (1, 3), (2, 3)]],
        )

    def test_a_part_of_worth_nought_has_a_row_like_any_other(self):
        self.same(mix([[ONE, NONE], [NONE, ONE]], [0, 4], [0, 1]), [[(3, 4), (1, 4)], [NONE, ONE]])

    def test_each_table(self):
        for rows, worths in TABLES:
            for amounts in amounts_for(worths):
                self.same(mix(rows, worths, amounts), plain_mix(rows, worths, amounts))

    def test_all_small_casts(self):
        rows = [[ONE, NONE, NONE], [NONE, ONE, NONE], [NONE, (1, 2), (1, 2)]]
        for worths in itertools.product(range(4), repeat=3):
            for amounts in small_casts(worths):
                if sum(amounts) < sum(worths):
                    self.same(mix(rows, list(worths), amounts), plain_mix(rows, worths, amounts))

    def test_each_row_still_comes_to_one(self):
        for rows, worths in TABLES:
            for amounts in amounts_for(worths):
                self.comes_to_one(mix(rows, worths, amounts))

    def test_without_owners(self):
        self.same(mix([[], []], [5, 6], [1, 0]), [[], []])

    def test_a_row_that_does_not_come_to_one(self):
        rows = [[(1, 2), (1, 3)], [(5, 1), (-7, 2)]]
        self.same(mix(rows, [4, 6], [3, 2]), plain_mix(rows, [4, 6], [3, 2]))


class GiftTest(TableTest):
    def test_ordinary(self):
        self.same(gift([[ONE, NONE], [NONE, ONE]], [10, 30], 1, 10), [[(3, 4), (1, 4)], [NONE, ONE]])
        self.same(gift([[ONE, NONE], [NONE, ONE]], [10, 30], 0, 39), [[ONE, NONE], [(39, 40), (1, 40)]])

    def test_the_amount_nought(self):
        for rows, worths in TABLES:
            for place in range(len(rows[0])):
                self.same(gift(rows, worths, place, 0), rows)

    def test_each_place(self):
        for rows, worths in TABLES:
            whole = sum(worths)
            for place in range(len(rows[0])):
                for amount in sorted({0, 1, whole // 3, whole // 2, whole - 1}):
                    told = gift(rows, worths, place, amount)
                    self.same(told, plain_gift(rows, worths, place, amount))
                    self.comes_to_one(told)

    def test_the_owner_gets_the_amount_and_all_bear_it(self):
        for rows, worths in TABLES:
            whole, many = sum(worths), len(rows[0])
            for place in range(many):
                amount = whole // 3
                ahead = stakes(rows, worths, many)
                behind = stakes(gift(rows, worths, place, amount), worths, many)
                for at in range(many):
                    awaited = fraction(ahead[at]) * (whole - amount) / whole + (amount if at == place else 0)
                    self.assertEqual(fraction(behind[at]), awaited)


class CastsTest(TableTest):
    """Point 10, as far as it speaks of a table."""

    def less(self, worths, amounts):
        return [worth - amount for worth, amount in zip(worths, amounts)]

    def summed(self, first, second):
        return [one + other for one, other in zip(first, second)]

    def test_one_ratio_for_every_stake(self):
        for rows, worths in TABLES:
            many = len(rows[0])
            for amounts in amounts_for(worths):
                ahead = stakes(rows, worths, many)
                behind = stakes(mix(rows, worths, amounts), self.less(worths, amounts), many)
                kept = Fraction(sum(worths) - sum(amounts), sum(worths))
                self.assertEqual([fraction(a) for a in behind], [kept * fraction(a) for a in ahead])

    def test_it_does_not_matter_whose_parts_were_cast(self):
        rows, worths = TABLES[3]
        found = {}
        for amounts in small_casts(worths):
            if sum(amounts) < sum(worths):
                told = stakes(mix(rows, worths, amounts), self.less(worths, amounts), 3)
                self.assertEqual(told, found.setdefault(sum(amounts), told))

    def test_two_casts_come_to_one_of_both_together(self):
        for rows, worths in TABLES:
            for first in amounts_for(worths):
                rest = self.less(worths, first)
                middle = mix(rows, worths, first)
                for second in amounts_for(rest):
                    self.same(mix(middle, rest, second), mix(rows, worths, self.summed(first, second)))

    def test_two_casts_in_either_order(self):
        rows, worths = TABLES[3]
        one, other = [3, 0, 1, 6], [2, 4, 0, 0]
        this = mix(mix(rows, worths, one), self.less(worths, one), other)
        that = mix(mix(rows, worths, other), self.less(worths, other), one)
        self.same(this, that)

    def test_worths_and_amounts_so_many_times_as_great(self):
        for rows, worths in TABLES[:4]:
            for amounts in amounts_for(worths):
                greater = mix(rows, [worth * 12 for worth in worths], [amount * 12 for amount in amounts])
                self.same(greater, mix(rows, worths, amounts))


class OwnListsTest(TableTest):
    """Point 1: nothing that is handed in is changed or kept, and each list that is told is the caller's own."""

    def calls(self):
        for rows, worths in TABLES:
            for amounts in amounts_for(worths):
                yield rows, worths, amounts, lambda r, w, a: mix(r, w, a)
            for place in range(len(rows[0])):
                for amount in (0, 1):
                    yield rows, worths, [], lambda r, w, a, p=place, k=amount: gift(r, w, p, k)

    def test_what_is_handed_in_stays_as_it_was(self):
        for rows, worths, amounts, call in self.calls():
            handed = copy.deepcopy((rows, worths, amounts))
            call(*handed)
            stakes(handed[0], handed[1], len(rows[0]))
            self.assertEqual(handed, (rows, worths, amounts))

    def test_told_rows_are_new_lists(self):
        for rows, worths, amounts, call in self.calls():
            told = call(rows, worths, amounts)
            self.assertIsNot(told, rows)
            lists = [id(row) for row in told + rows]
            self.assertEqual(len(set(lists)), len(told) + len(rows))

    def test_a_row_handed_in_twice_is_told_as_two(self):
        row = [(1, 2), (1, 2)]
        for told in (mix([row, row], [3, 4], [0, 0]), gift([row, row], [3, 4], 0, 0)):
            told[0][0] = (9, 1)
            self.assertEqual(told[1], [(1, 2), (1, 2)])
            self.assertEqual(row, [(1, 2), (1, 2)])

    def test_changing_a_told_row_changes_nothing_else(self):
        for rows, worths, amounts, call in self.calls():
            handed = copy.deepcopy((rows, worths, amounts))
            told = call(*handed)
            awaited = copy.deepcopy(told)
            told[0][0] = (99, 1)
            told[0].append((98, 1))
            self.assertEqual(told[1:], awaited[1:])
            self.assertEqual(handed, (rows, worths, amounts))
            self.assertEqual(call(*handed), awaited)

    def test_changing_what_was_handed_in_changes_nothing_told(self):
        for rows, worths, amounts, call in self.calls():
            handed = copy.deepcopy((rows, worths, amounts))
            told = call(*handed)
            awaited = copy.deepcopy(told)
            handed[0][0][0] = (99, 1)
            handed[0].append([(98, 1)])
            handed[1][0] += 5
            handed[2].append(7)
            self.assertEqual(told, awaited)
            self.assertEqual(call(rows, worths, amounts), awaited)

    def test_told_stakes_are_a_new_list(self):
        rows, worths = copy.deepcopy(TABLES[3])
        told = stakes(rows, worths, 3)
        awaited = list(told)
        told[0] = (99, 1)
        told.append((98, 1))
        self.assertEqual(stakes(rows, worths, 3), awaited)
        self.assertEqual((rows, worths), TABLES[3])
        empty = stakes([], [], 2)
        empty.append((98, 1))
        self.assertEqual(stakes([], [], 2), [NONE, NONE])


class InterfaceTest(unittest.TestCase):
    def test_names_and_arguments(self):
        awaited = {
            "stakes": ["rows", "worths", "many"], "mix": ["rows", "worths", "amounts"],
            "gift": ["rows", "worths", "place", "amount"],
        }
        for name, arguments in awaited.items():
            self.assertEqual(list(inspect.signature(getattr(table, name)).parameters), arguments)


if __name__ == "__main__":
    unittest.main()
