import inspect
import unittest
from fractions import Fraction

from jettison import ratio
from jettison.ratio import below, floor_of, lowest, minus, plus, scaled, times, total

GREAT = 10 ** 300 + 7
MANY_GREAT = [3 ** 700, 2 ** 900 * 5, GREAT, 6 ** 400]


def pair(fraction):
    return (fraction.numerator, fraction.denominator)


def small():
    return sorted({Fraction(top, bottom) for top in range(-7, 8) for bottom in range(1, 8)})


def great():
    return [Fraction(sign * top, bottom) for sign in (-1, 1) for top in MANY_GREAT for bottom in MANY_GREAT]


class RatioTest(unittest.TestCase):
    def same(self, told, awaited):
        """A fraction is a tuple of two ints: True would be equal to 1, so the kinds are asked apart."""
        self.assertEqual(told, awaited)
        self.assertIs(type(told), tuple)
        self.assertEqual([type(thing) for thing in told], [int, int])


class LowestTest(RatioTest):
    def test_numbers_that_share_a_factor(self):
        self.same(lowest(6, 4), (3, 2))
        self.same(lowest(4, 6), (2, 3))
        self.same(lowest(12, 4), (3, 1))
        self.same(lowest(7, 7), (1, 1))

    def test_numbers_that_share_none(self):
        self.same(lowest(3, 4), (3, 4))
        self.same(lowest(5, 1), (5, 1))
        self.same(lowest(1, 1), (1, 1))

    def test_nought_has_one_form(self):
        for bottom in (1, 2, 3, 12, GREAT):
            self.same(lowest(0, bottom), (0, 1))

    def test_tops_below_nought(self):
        self.same(lowest(-6, 4), (-3, 2))
        self.same(lowest(-4, 4), (-1, 1))
        self.same(lowest(-1, 3), (-1, 3))
        self.same(lowest(-4, 6), (-2, 3))

    def test_great_numbers(self):
        self.same(lowest(GREAT * 6, GREAT * 4), (3, 2))
        self.same(lowest(-GREAT * 6, GREAT * 4), (-3, 2))
        self.same(lowest(2 ** 900, 2 ** 899 * 3), (2, 3))
        self.same(lowest(10 ** 5000, 10 ** 4999 * 7), (10, 7))

    def test_all_small_ones(self):
        for top in range(-30, 31):
            for bottom in range(1, 31):
                self.same(lowest(top, bottom), pair(Fraction(top, bottom)))


class SumsTest(RatioTest):
    def each_two(self):
        for some in (small(), great()):
            for a in some:
                for b in some:
                    yield a, b

    def test_sum(self):
        self.same(plus((1, 6), (1, 3)), (1, 2))
        self.same(plus((1, 2), (-1, 2)), (0, 1))
        self.same(plus((0, 1), (0, 1)), (0, 1))
        self.same(plus((1, 4), (1, 4)), (1, 2))
        for a, b in self.each_two():
            self.same(plus(pair(a), pair(b)), pair(a + b))

    def test_difference(self):
        self.same(minus((1, 2), (1, 3)), (1, 6))
        self.same(minus((1, 3), (1, 2)), (-1, 6))
        self.same(minus((3, 4), (3, 4)), (0, 1))
        for a, b in self.each_two():
            self.same(minus(pair(a), pair(b)), pair(a - b))

    def test_product(self):
        self.same(times((2, 3), (3, 4)), (1, 2))
        self.same(times((-2, 3), (-3, 2)), (1, 1))
        self.same(times((0, 1), (-3, 4)), (0, 1))
        for a, b in self.each_two():
            self.same(times(pair(a), pair(b)), pair(a * b))

    def test_multiple(self):
        self.same(scaled((1, 6), 4), (2, 3))
        self.same(scaled((5, 6), 0), (0, 1))
        self.same(scaled((5, 6), -6), (-5, 1))
        for a in small() + great():
            for many in (-12, -1, 0, 1, 2, 5, 60, 10 ** 12, 6 ** 400):
                self.same(scaled(pair(a), many), pair(a * many))


class TotalTest(RatioTest):
    def test_of_the_empty_list(self):
        self.same(total([]), (0, 1))

    def test_of_one(self):
        for a in small():
            self.same(total([pair(a)]), pair(a))

    def test_of_several(self):
        self.same(total([(1, 2), (1, 3), (1, 6)]), (1, 1))
        self.same(total([(1, 2), (-1, 3), (-1, 6)]), (0, 1))
        self.same(total([(1, 4), (1, 4)]), (1, 2))
        self.same(total([(0, 1), (0, 1)]), (0, 1))
        for some in (small(), great()):
            for many in range(len(some)):
                self.same(total([pair(a) for a in some[:many]]), pair(sum(some[:many], Fraction(0))))

    def test_the_row_stays_as_it_was(self):
        row = [(1, 2), (-1, 3), (0, 1)]
        total(row)
        self.assertEqual(row, [(1, 2), (-1, 3), (0, 1)])


class BelowTest(RatioTest):
    def test_both_ways_round(self):
        self.assertIs(below((1, 3), (1, 2)), True)
        self.assertIs(below((1, 2), (1, 3)), False)
        self.assertIs(below((-1, 2), (-1, 3)), True)
        self.assertIs(below((-1, 3), (-1, 2)), False)
        self.assertIs(below((-1, 2), (0, 1)), True)
        self.assertIs(below((0, 1), (-1, 2)), False)

    def test_of_a_fraction_with_itself(self):
        for a in small() + great():
            self.assertIs(below(pair(a), pair(a)), False)

    def test_each_two(self):
        for some in (small(), great()):
            for a in some:
                for b in some:
                    self.assertIs(below(pair(a), pair(b)), a < b)

    def test_great_ones_that_lie_close(self):
        self.assertIs(below((GREAT - 1, GREAT), (GREAT, GREAT + 1)), True)
        self.assertIs(below((GREAT, GREAT + 1), (GREAT - 1, GREAT)), False)


class FloorTest(RatioTest):
    def whole(self, told, awaited):
        self.assertEqual(told, awaited)
        self.assertIs(type(told), int)

    def test_above_nought(self):
        self.whole(floor_of((7, 2)), 3)
        self.whole(floor_of((1, 2)), 0)
        self.whole(floor_of((99, 100)), 0)

    def test_below_nought(self):
        self.whole(floor_of((-1, 2)), -1)
        self.whole(floor_of((-7, 2)), -4)
        self.whole(floor_of((-1, 100)), -1)

    def test_of_whole_fractions(self):
        for many in (-5, -1, 0, 1, 4, GREAT, -GREAT):
            self.whole(floor_of((many, 1)), many)

    def test_great_ones(self):
        self.whole(floor_of((GREAT * 2 + 1, 2)), GREAT)
        self.whole(floor_of((-GREAT * 2 - 1, 2)), -GREAT - 1)


class InterfaceTest(unittest.TestCase):
    def test_names_and_arguments(self):
        awaited = {
            "lowest": ["top", "bottom"], "plus": ["a", "b"], "minus": ["a", "b"], "times": ["a", "b"],
            "scaled": ["a", "many"], "total": ["row"], "below": ["a", "b"], "floor_of": ["a"],
        }
        for name, arguments in awaited.items():
            self.assertEqual(list(inspect.signature(getattr(ratio, name)).parameters), arguments)


if __name__ == "__main__":
    unittest.main()
