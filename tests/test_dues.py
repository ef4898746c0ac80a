import inspect
import itertools
import unittest

from jettison import dues
from jettison.dues import payments


class PaymentsTest(unittest.TestCase):
    def told(self, changes, awaited):
        handed = list(changes)
        told = payments(handed)
        self.assertEqual(told, awaited)
        self.assertEqual(handed, changes)
        self.assertIs(type(told), list)
        for row in told:
            self.assertIs(type(row), tuple)
            self.assertEqual([type(thing) for thing in row], [str, str, int])

    def test_no_changes(self):
        self.told([], [])

    def test_changes_of_nought(self):
        self.told([("ann", 0)], [])
        self.told([("ann", 0), ("bob", 0), ("", 0)], [])
        self.told([("ann", 0), ("bob", 3), ("cid", 0), ("dan", -3), ("", 0)], [("dan", "bob", 3)])

    def test_one_giver_and_one_taker(self):
        self.told([("ann", -7), ("bob", 7)], [("ann", "bob", 7)])
        self.told([("ann", 7), ("bob", -7)], [("bob", "ann", 7)])
        self.told([("ann", 1), ("bob", -1)], [("bob", "ann", 1)])

    def test_one_giver_and_several_takers(self):
        self.told([("ann", 2), ("bob", -9), ("cid", 3), ("dan", 4)],
                  [("bob", "ann", 2), ("bob", "cid", 3), ("bob", "dan", 4)])

    def test_several_givers_and_one_taker(self):
        self.told([("ann", -2), ("bob", 9), ("cid", -3), ("dan", -4)],
                  [("ann", "bob", 2), ("cid", "bob", 3), ("dan", "bob", 4)])

    def test_several_of_both(self):
        self.told([("ann", -5), ("bob", 3), ("cid", -4), ("dan", 6)],
                  [("ann", "bob", 3), ("ann", "dan", 2), ("cid", "dan", 4)])
        self.told([("ann", 6), ("bob", -4), ("cid", 3), ("dan", -5)],
                  [("bob", "ann", 4), ("dan", "ann", 2), ("dan", "cid", 3)])

    def test_equal_ones(self):
        self.told([("ann", -4), ("bob", -4), ("cid", 4), ("dan", 4)], [("ann", "cid", 4), ("bob", "dan", 4)])
        self.told([("ann", 1), ("bob", 1), ("cid", -1), ("dan", -1)], [("cid", "ann", 1), ("dan", "bob", 1)])

    def test_the_chest(self):
        self.told([("ann", 3), ("bob", -5), ("", 2)], [("bob", "ann", 3), ("bob", "", 2)])
        self.told([("ann", 3), ("bob", 4), ("", -7)], [("", "ann", 3), ("", "bob", 4)])
        self.told([("ann", -1), ("", 1)], [("ann", "", 1)])

    def test_the_order_handed_in_is_the_order_of_givers_and_takers(self):
        self.told([("zoe", -1), ("ann", -1), ("yan", 1), ("bob", 1)], [("zoe", "yan", 1), ("ann", "bob", 1)])
        self.told([("", -2), ("zoe", 1), ("ann", 1)], [("", "zoe", 1), ("", "ann", 1)])

    def test_great_sums(self):
        self.told([("ann", -10 ** 40), ("bob", 10 ** 40 - 1), ("", 1)],
                  [("ann", "bob", 10 ** 40 - 1), ("ann", "", 1)])

    def test_all_small_ones(self):
        for coins in itertools.product(range(-3, 4), repeat=4):
            changes = list(zip(("ann", "bob", "cid", "dan"), coins)) + [("", -sum(coins))]
            told = payments(changes)
            left = dict(changes)
            for giver, taker, many in told:
                self.assertGreaterEqual(many, 1)
                # The first giver and the first taker that aren't through, and the lesser of the two.
                givers = [name for name, change in changes if left[name] < 0]
                takers = [name for name, change in changes if left[name] > 0]
                self.assertEqual((giver, taker, many), (givers[0], takers[0], min(-left[giver], left[taker])))
                left[giver] += many
                left[taker] -= many
            self.assertEqual(set(left.values()), {0})
            moved = [name for name, change in changes if change != 0]
            self.assertLessEqual(len(told), max(0, len(moved) - 1))

    def test_many(self):
        changes = [(f"a{at}", (-1) ** at * (at // 2 + 1)) for at in range(2000)]
        self.assertEqual(len(payments(changes)), 1000)

    def test_told_and_handed_lists_are_apart(self):
        changes = [("ann", -7), ("bob", 7)]
        told = payments(changes)
        changes.clear()
        self.assertEqual(told, [("ann", "bob", 7)])
        told.append(("bob", "ann", 7))
        self.assertEqual(payments([("ann", -7), ("bob", 7)]), [("ann", "bob", 7)])


class InterfaceTest(unittest.TestCase):
    def test_names_and_arguments(self):
        self.assertEqual(list(inspect.signature(dues.payments).parameters), ["changes"])


if __name__ == "__main__":
    unittest.main()
