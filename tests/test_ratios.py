import unittest
from fractions import Fraction

from neverbare import ratios
from neverbare.errors import BadRatio
from neverbare.ratios import (
    HALF, ONE, ZERO, ascending_ratios, broken_of, compare, floor_of, greatest_of, is_ratio, is_sequence,
    is_whole, least_of, make_ratio, merged_ratios, middle_of_two, minus, negative, number_pairs,
    over, plus, ratio_text, sum_of, times,
)
from tests.helping import ODD_THINGS, as_ratio, leaves_alone, raises

SOME = [as_ratio(Fraction(top, bottom)) for top in range(-7, 8) for bottom in (1, 2, 3, 4, 6)]


class TestKindsOfNumbers(unittest.TestCase):
    def test_whole_numbers(self):
        for thing in (0, 1, -1, 10 ** 40):
            self.assertIs(is_whole(thing), True)
        for thing in (*ODD_THINGS, (0, 1), [0]):
            self.assertIs(is_whole(thing), False)

    def test_whole_numbers_within_limits(self):
        self.assertIs(is_whole(3, 3), True)
        self.assertIs(is_whole(2, 3), False)
        self.assertIs(is_whole(3, None, 3), True)
        self.assertIs(is_whole(4, None, 3), False)
        self.assertIs(is_whole(-5, -5, 5), True)
        self.assertIs(is_whole(6, -5, 5), False)
        self.assertIs(is_whole(-6, low=-5, high=5), False)
        self.assertIs(is_whole(True, 0, 5), False)
        self.assertIs(is_whole(0, 0, 0), True)

    def test_ratios(self):
        for thing in ((0, 1), (1, 2), (-7, 2), (5, 1), (-3, 1)):
            self.assertIs(is_ratio(thing), True)

    def test_no_ratios(self):
        odd = ((0, 2), (2, 4), (1, 0), (0, 0), (1, -2), (-1, -2), [1, 2], (1,), (1, 2, 3), (), (True, 1),
               (1, True), (False, 1), (1.0, 2), (1, 2.0), ("1", 2), (None, 1), 0, 1, "1/2")
        for thing in (*odd, *ODD_THINGS):
            self.assertIs(is_ratio(thing), False, thing)

    def test_sequences(self):
        for thing in ([], (), [1, 2]):
            self.assertIs(is_sequence(thing), True)
        for thing in (*ODD_THINGS, {1}, iter([])):
            self.assertIs(is_sequence(thing), False)
        self.assertIs(is_sequence([1], 2), False)
        self.assertIs(is_sequence([1, 2], 2, 2), True)
        self.assertIs(is_sequence([1, 2, 3], 2, 2), False)


class TestMakeRatio(unittest.TestCase):
    def test_lowest_terms(self):
        for top in range(-9, 10):
            for bottom in list(range(-6, 0)) + list(range(1, 7)):
                found = make_ratio(top, bottom)
                self.assertEqual(found, as_ratio(Fraction(top, bottom)))
                self.assertIs(is_ratio(found), True)

    def test_bottom_is_1_if_left_out(self):
        self.assertEqual(make_ratio(4), (4, 1))
        self.assertEqual(make_ratio(0), (0, 1))

    def test_errors(self):
        for thing in (*ODD_THINGS, (1, 1)):
            raises(self, BadRatio, {"what": "top"}, make_ratio, thing)
            raises(self, BadRatio, {"what": "top"}, make_ratio, thing, 2)
            raises(self, BadRatio, {"what": "bottom"}, make_ratio, 2, thing)
        raises(self, BadRatio, {"what": "bottom"}, make_ratio, 2, 0)

    def test_top_is_checked_before_bottom(self):
        raises(self, BadRatio, {"what": "top"}, make_ratio, None, 0)
        raises(self, BadRatio, {"what": "top"}, make_ratio, True, None)


class TestReckoning(unittest.TestCase):
    def test_constants(self):
        self.assertEqual((ZERO, ONE, HALF), ((0, 1), (1, 1), (1, 2)))

    def test_two_ratios(self):
        for one in SOME:
            for other in SOME:
                a, b = Fraction(*one), Fraction(*other)
                self.assertEqual(plus(one, other), as_ratio(a + b))
                self.assertEqual(minus(one, other), as_ratio(a - b))
                self.assertEqual(times(one, other), as_ratio(a * b))
                if b == 0:
                    raises(self, BadRatio, {"what": "zero"}, over, one, other)
                else:
                    self.assertEqual(over(one, other), as_ratio(a / b))
                self.assertEqual(compare(one, other), (a > b) - (a < b))
                self.assertIs(type(compare(one, other)), int)
                self.assertEqual(middle_of_two(one, other), as_ratio((a + b) / 2))

    def test_one_ratio(self):
        for one in SOME:
            number = Fraction(*one)
            self.assertEqual(negative(one), as_ratio(-number))
            self.assertEqual(floor_of(one), number.numerator // number.denominator)
            self.assertEqual(broken_of(one), as_ratio(number - floor_of(one)))

    def test_told_values(self):
        self.assertEqual(plus((1, 2), (1, 3)), (5, 6))
        self.assertEqual(minus((1, 2), (1, 2)), (0, 1))
        self.assertEqual(times((2, 3), (3, 2)), (1, 1))
        self.assertEqual(over((1, 2), (-1, 4)), (-2, 1))
        self.assertEqual(floor_of((-1, 2)), -1)
        self.assertEqual(broken_of((-1, 3)), (2, 3))
        self.assertEqual(broken_of((-4, 1)), (0, 1))

    def test_great_numbers(self):
        big = 10 ** 299 + 7
        self.assertEqual(plus((big, 1), (1, big)), (big * big + 1, big))
        self.assertEqual(compare((big, big - 1), (big + 1, big)), 1)


class TestSequencesOfRatios(unittest.TestCase):
    def test_sum(self):
        self.assertEqual(sum_of(()), (0, 1))
        self.assertEqual(sum_of([]), (0, 1))
        self.assertEqual(leaves_alone(self, sum_of, [(1, 2), (1, 3), (1, 6)]), (1, 1))
        self.assertEqual(sum_of(SOME), as_ratio(sum([Fraction(*one) for one in SOME])))

    def test_least_and_greatest(self):
        row = [(1, 2), (-3, 1), (7, 3), (-10, 3), (2, 1)]
        self.assertEqual(leaves_alone(self, least_of, row), (-10, 3))
        self.assertEqual(leaves_alone(self, greatest_of, row), (7, 3))
        self.assertEqual(least_of(tuple(row)), (-10, 3))
        self.assertEqual(least_of([(5, 4)]), (5, 4))
        self.assertEqual(greatest_of([(5, 4)]), (5, 4))
        self.assertEqual(least_of([(3, 1), (5, 2)]), (5, 2))
        self.assertEqual(greatest_of([(1, 3), (1, 2)]), (1, 2))

    def test_ascending_and_merged(self):
        row = [(2, 1), (1, 2), (-3, 4), (1, 2), (5, 3), (-3, 4)]
        self.assertEqual(leaves_alone(self, ascending_ratios, row), ((-3, 4), (1, 2), (5, 3), (2, 1)))
        self.assertEqual(ascending_ratios([]), ())
        self.assertEqual(ascending_ratios([(1, 3)]), ((1, 3),))
        numbers = sorted({Fraction(*one) for one in SOME})
        self.assertEqual(ascending_ratios(SOME), tuple([as_ratio(number) for number in numbers]))
        self.assertEqual(
            merged_ratios(((0, 1), (1, 1)), ((1, 2), (1, 1), (3, 2))),
            ((0, 1), (1, 2), (1, 1), (3, 2)),
        )

    def test_number_pairs(self):
        self.assertEqual(number_pairs(1), [])
        self.assertEqual(number_pairs(3), [(0, 1), (0, 2), (1, 2)])


class TestText(unittest.TestCase):
    def test_text(self):
        self.assertEqual(ratio_text((3, 1)), "3")
        self.assertEqual(ratio_text((0, 1)), "0")
        self.assertEqual(ratio_text((-7, 2)), "-7/2")
        self.assertEqual(ratio_text((-4, 1)), "-4")
        self.assertEqual(ratio_text((1, 12)), "1/12")

    def test_defined_here(self):
        for name in ("is_whole", "is_ratio", "make_ratio", "plus", "minus", "times", "over", "negative",
                     "broken_of", "compare", "floor_of", "sum_of", "least_of", "greatest_of", "ratio_text"):
            self.assertEqual(vars(ratios)[name].__module__, "neverbare.ratios")


if __name__ == "__main__":
    unittest.main()
