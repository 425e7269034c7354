import unittest
from fractions import Fraction

from rootcourt.cuts import roots_of
from rootcourt.errors import NoInverse, TooGreat
from rootcourt.forms import f_plus, f_scaled, f_times
from rootcourt.numbers import beside, is_number, number
from rootcourt.opposites import inverse_of, minus_of
from rootcourt.products import difference, product_of, product_paper, product_right, quotient
from rootcourt.sums import sum_of
from tests.helper import ROOT_TWO, linear, multiplied, point, stretch, told
from tests.test_forms import X, Y
from tests import test_sums
from tests.test_sums import HALF, ONE, ROOT_THREE, THIRD, of_degree, ordinary_pairs

GREAT = 10 ** 60 + 7
HUGE = 10 ** 1500
BELOW = stretch((-2, 0, 1), -2, -1)
NOUGHTS = (number((0, 1)), stretch((0, 1), -1, 1), stretch((0, -2, 0, 1), -1, 1), stretch((0, 1), Fraction(-1, 7), 90))


class Products(test_sums.Pairing, unittest.TestCase):

    deed = "product"
    joined_names = f_times(X, Y)

    def found_of(self, a, b):
        return product_of(a, b)

    def paper_of(self, a, b):
        return product_paper(a, b)

    def right_of(self, a, b, paper):
        return product_right(a, b, paper)

    def joined(self, one, other):
        return one * other

    def joined_with_one(self, a):
        return a

    def test_known_products(self):
        self.assertEqual(product_of(ROOT_TWO, ROOT_THREE)[0], (-6, 0, 1))
        self.assertEqual(product_of(ROOT_TWO, ROOT_TWO)[0], (-4, 0, 1))
        self.assertEqual(product_of(ROOT_TWO, point(Fraction(1, 3)))[0], (-2, 0, 9))
        self.assertEqual(product_of(HALF, THIRD)[0], (-1, 6))
        self.assertEqual(product_of(stretch((0, -2, 0, 1), 1, 2), ROOT_TWO)[0], (0, -4, 0, 1))

    def test_times_nought(self):
        for nought in NOUGHTS:
            for other in (ROOT_TWO, BELOW, HALF, point(7), of_degree(4), stretch((-2, 0, 1), 0, 2)) + NOUGHTS:
                for a, b in ((nought, other), (other, nought)):
                    paper = self.told_and_checked(a, b)
                    self.assertEqual(beside(paper[0], (0, 1)), 0)
        self.assertEqual(product_of(number((0, 1)), ROOT_TWO)[0], (0, 1))
        self.assertEqual(product_of(stretch((0, -2, 0, 1), -1, 1), ROOT_TWO)[0], (0, -4, 0, 1))
        self.assertEqual(product_of(number((0, 1)), point(5)), number((0, 1)))

    def test_numbers_below_nought(self):
        for a, b, expected in ((BELOW, ROOT_THREE, [1, -1]), (ROOT_THREE, BELOW, [1, -1]),
                               (BELOW, point(Fraction(49, 40)), [1, 1])):
            found = product_of(a, b)
            self.assertEqual([beside(found, r) for r in ((-5, 2), (-12, 5))], expected)
        found = product_of(BELOW, stretch((-3, 0, 1), -2, -1))
        self.assertEqual([beside(found, r) for r in ((12, 5), (5, 2))], [1, -1])

    def test_a_number_and_its_inverse(self):
        for a in (ROOT_TWO, BELOW, HALF, point(-7), stretch((-5, 1, 0, 1), 1, 2), of_degree(4),
                  stretch((0, -2, 0, 1), 1, 2)):
            paper = self.told_and_checked(a, inverse_of(a))
            self.assertEqual(beside(paper[0], (1, 1)), 0)
        self.assertEqual(product_of(ROOT_TWO, inverse_of(ROOT_TWO))[0], (-1, 0, 1))

    def test_roots_that_are_fractions(self):
        one, other = (Fraction(-1), Fraction(1, 2), Fraction(3)), (Fraction(-2), Fraction(0), Fraction(5, 2))
        p, q = multiplied(*[linear(r) for r in one]), multiplied(*[linear(r) for r in other])
        r = multiplied(*[linear(s) for s in sorted({left * right for left in one for right in other})])
        for a, left in zip(roots_of(p), one):
            for b, right in zip(roots_of(q), other):
                found = product_of(a, b)
                self.assertEqual(found[0], r)
                self.assertEqual(beside(found, told(left * right)), 0)

    def test_products_that_lie_very_near(self):
        found = product_of(ROOT_TWO, stretch((-2 * GREAT - 1, 0, GREAT), 1, 2))
        self.assertEqual((beside(found, (2, 1)), beside(found, (2 * GREAT + 1, GREAT))), (1, -1))

    def test_however_great(self):
        great = stretch((-HUGE * HUGE - 1, 0, 1), 0, 2 * HUGE)
        found = product_of(great, point(Fraction(1, HUGE)))
        self.assertEqual((beside(found, (1, 1)), beside(found, (HUGE + 1, HUGE))), (1, -1))
        self.assertEqual(beside(product_of(great, inverse_of(great)), (1, 1)), 0)

    def test_what_is_told_may_be_handed_in_again(self):
        four = sum_of(ROOT_TWO, ROOT_THREE)
        back = product_of(four, inverse_of(four))
        self.assertEqual(beside(back, (1, 1)), 0)
        self.assertEqual(len(product_of(four, four)[0]) - 1, len(test_sums.paired(four[0], four[0], "product")) - 1)

    def test_fractions_twice(self):
        half, third, wide = ((1, 2), (1, 2)), ((1, 3), (1, 3)), ((0, 1), (1, 1))
        tail = product_paper(HALF, THIRD)[3:]
        sixth = Fraction(1, 6)
        self.assertIs(product_right(HALF, THIRD, (stretch((-1, 6), 0, 1), half, third) + tail), True)
        self.assertIs(product_right(HALF, THIRD, (point(sixth), half, third) + tail), True)
        self.assertIs(product_right(HALF, THIRD, (point(Fraction(1, 7)), half, third) + tail), False)
        self.assertIs(product_right(HALF, THIRD, (point(sixth), wide, third) + tail), False)
        self.assertIs(product_right(HALF, THIRD, (stretch((-1, 6), 0, Fraction(1, 3)), wide, third) + tail), True)
        self.assertIs(product_right(HALF, THIRD, (stretch((-1, 6), 0, Fraction(1, 4)), wide, third) + tail), False)
        self.assertIs(product_right(HALF, THIRD, (stretch((-1, 6), Fraction(1, 100), 1), wide, third) + tail), False)
        self.assertIs(product_right(HALF, THIRD, (stretch((-1, 6), -1, 1), wide, wide) + tail), True)

    def test_nought_twice(self):
        nought, twice = stretch((0, 1), -1, 1), ((0, 1), (0, 1))
        tail = product_paper(nought, ROOT_TWO)[3:]
        across = ((1, 1), (2, 1))
        self.assertIs(product_right(nought, ROOT_TWO, (number((0, 1)), twice, across) + tail), True)
        self.assertIs(product_right(nought, ROOT_TWO, (stretch((0, 1), -9, 1), twice, across) + tail), True)
        self.assertIs(product_right(nought, ROOT_TWO, (number((0, 1)), ((-1, 1), (1, 1)), across) + tail), False)
        self.assertIs(product_right(nought, ROOT_TWO, (stretch((0, 1), -2, 2), ((-1, 1), (1, 1)), across) + tail), True)
        self.assertIs(product_right(nought, ROOT_TWO, (stretch((0, 1), -2, 1), ((-1, 1), (1, 1)), across) + tail), False)
        self.assertIs(product_right(nought, ROOT_TWO, (stretch((0, 1), -1, 2), ((-1, 1), (1, 1)), across) + tail), False)
        point_tail = product_paper(number((0, 1)), ROOT_TWO)[3:]
        for n, expected in ((number((0, 1)), True), (stretch((0, 1), -1, 1), True), (point(1), False)):
            self.assertIs(product_right(number((0, 1)), ROOT_TWO, (n, twice, across) + point_tail), expected)

    def test_all_four_products_count(self):
        # Below 0 the least product is that of unlike ends.
        one, other = ((-2, 1), (-1, 1)), ((1, 1), (2, 1))
        tail = product_paper(BELOW, ROOT_THREE)[3:]
        for lo, hi, expected in ((-4, -1, True), (-5, 0, True), (-3, -1, False), (-4, Fraction(-3, 2), False),
                                 (Fraction(-5, 2), -2, False)):
            n = stretch((-6, 0, 1), lo, hi)
            self.assertIs(is_number(n), True)
            self.assertIs(product_right(BELOW, ROOT_THREE, (n, one, other) + tail), expected)

    def test_another_polynomial_of_others(self):
        n, one, other, scale, left, right = product_paper(HALF, THIRD)
        more = f_plus(f_times(X, Y), f_scaled(ONE, -3))
        tail = (scale, f_times(left, more), f_times(right, more))
        r = multiplied((-1, 6), (-3, 1))
        half, third = ((1, 2), (1, 2)), ((1, 3), (1, 3))
        self.assertIs(product_right(HALF, THIRD, (stretch(r, 0, 2), half, third) + tail), True)
        self.assertIs(product_right(HALF, THIRD, (stretch(r, 2, 4), half, third) + tail), False)


class Differences(unittest.TestCase):

    def test_equal_numbers(self):
        for a in (ROOT_TWO, BELOW, HALF, point(3), of_degree(4)) + NOUGHTS:
            found = difference(a, a)
            self.assertIs(is_number(found), True)
            self.assertEqual(beside(found, (0, 1)), 0)
        self.assertEqual(beside(difference(ROOT_TWO, stretch((-4, 0, 0, 0, 1), 1, 2)), (0, 1)), 0)

    def test_it_is_the_sum_with_the_minus(self):
        for a, b in ordinary_pairs():
            found, expected = difference(a, b), sum_of(a, minus_of(b))
            self.assertIs(is_number(found), True)
            self.assertEqual(found[0], expected[0])
            self.assertEqual((beside(expected, found[1]) >= 0, beside(expected, found[2]) <= 0), (True, True))

    def test_sides(self):
        self.assertEqual(difference(point(3), point(Fraction(1, 2))), point(Fraction(5, 2)))
        found = difference(ROOT_THREE, ROOT_TWO)
        self.assertEqual([beside(found, r) for r in ((3, 10), (1, 3))], [1, -1])
        self.assertEqual(found[0], (1, 0, -10, 0, 1))

    def test_too_great(self):
        for a, b in ((of_degree(17), point(1)), (of_degree(5), of_degree(4))):
            with self.assertRaises(TooGreat):
                difference(a, b)


class Quotients(unittest.TestCase):

    def test_it_is_the_product_with_the_inverse(self):
        for a, b in ordinary_pairs():
            if beside(b, (0, 1)) != 0:
                found, expected = quotient(a, b), product_of(a, inverse_of(b))
                self.assertIs(is_number(found), True)
                self.assertEqual(found[0], expected[0])
                self.assertEqual((beside(expected, found[1]) >= 0, beside(expected, found[2]) <= 0), (True, True))

    def test_sides(self):
        self.assertEqual(quotient(point(3), point(Fraction(-1, 2))), point(-6))
        found = quotient(ROOT_THREE, ROOT_TWO)
        self.assertEqual(found[0], (-3, 0, 2))
        self.assertEqual([beside(found, r) for r in ((6, 5), (5, 4))], [1, -1])
        found = quotient(ROOT_THREE, BELOW)
        self.assertEqual([beside(found, r) for r in ((-5, 4), (-6, 5))], [1, -1])

    def test_by_itself(self):
        for a in (ROOT_TWO, BELOW, HALF, point(3), of_degree(4)):
            self.assertEqual(beside(quotient(a, a), (1, 1)), 0)

    def test_nought_over_a_number(self):
        for nought in NOUGHTS:
            self.assertEqual(beside(quotient(nought, ROOT_TWO), (0, 1)), 0)

    def test_over_nought(self):
        seventeen = stretch((0, -2) + (0,) * 15 + (1,), Fraction(-1, 2), Fraction(1, 2))
        self.assertIs(is_number(seventeen), True)
        for nought in NOUGHTS + (seventeen,):
            for a in (ROOT_TWO, point(1), point(0), of_degree(17), of_degree(20)):
                with self.assertRaises(NoInverse):
                    quotient(a, nought)

    def test_too_great(self):
        for a, b in ((of_degree(17), point(1)), (of_degree(5), of_degree(4)), (point(0), of_degree(17))):
            with self.assertRaises(TooGreat):
                quotient(a, b)

    def test_the_degree_of_the_inverse_counts(self):
        # The inverse's polynomial has lost the root 0: 4 times 4, not 4 times 5.
        five = stretch((0, -2, 0, 0, 0, 1), 1, 2)
        self.assertIs(is_number(quotient(of_degree(4), five)), True)
        with self.assertRaises(TooGreat):
            quotient(five, of_degree(4))


if __name__ == "__main__":
    unittest.main()
