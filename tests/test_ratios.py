import math
import unittest
from fractions import Fraction

from rootcourt.errors import CourtError, NoPart
from rootcourt.ratios import fraction, is_fraction, less, minus, over, plus, sign, times
from tests.helper import anything, meant, some_fraction, some_whole, source, told

GREAT = 10 ** 65 + 9


class IsFraction(unittest.TestCase):

    def test_fractions(self):
        for thing in ((0, 1), (1, 1), (-3, 2), (3, 2), (5, 1), (GREAT, GREAT + 1), (-GREAT, 2)):
            self.assertIs(is_fraction(thing), True)

    def test_no_lowest_terms(self):
        for thing in ((6, 4), (-6, 4), (0, 2), (0, 7), (5, 5), (GREAT, GREAT), (2 * GREAT, 3 * GREAT)):
            self.assertIs(is_fraction(thing), False)

    def test_bottoms_of_nought_or_below(self):
        for thing in ((1, 0), (0, 0), (-1, 0), (1, -1), (3, -2), (0, -1)):
            self.assertIs(is_fraction(thing), False)

    def test_truths_and_other_things_in_a_parts_place(self):
        for part in (True, False, None, "1", "", 1.0, (1,), [1]):
            self.assertIs(is_fraction((part, 1)), False)
            self.assertIs(is_fraction((part, 3)), False)
            self.assertIs(is_fraction((1, part)), False)
            self.assertIs(is_fraction((0, part)), False)

    def test_lists_and_other_lengths(self):
        for thing in ([1, 2], (), (1,), (1, 2, 3), (1, 1, 1), "12", [0, 1], Fraction(1, 2), 1):
            self.assertIs(is_fraction(thing), False)

    def test_anything_at_all(self):
        for thing in anything():
            self.assertIs(is_fraction(thing), False)


class Made(unittest.TestCase):

    def test_the_documents_examples(self):
        self.assertEqual(fraction(6, -4), (-3, 2))
        self.assertEqual(fraction(0, 7), (0, 1))

    def test_signs(self):
        self.assertEqual(fraction(-6, -4), (3, 2))
        self.assertEqual(fraction(-6, 4), (-3, 2))
        self.assertEqual(fraction(0, -7), (0, 1))
        self.assertEqual(fraction(7, 1), (7, 1))
        self.assertEqual(fraction(7, -1), (-7, 1))

    def test_great_parts(self):
        self.assertEqual(fraction(GREAT * 6, -GREAT * 4), (-3, 2))
        self.assertEqual(fraction(10 ** 400, 2 * 10 ** 399), (5, 1))

    def test_bottom_nought_is_refused(self):
        for top in (0, 1, -5, GREAT):
            with self.assertRaises(NoPart):
                fraction(top, 0)
        with self.assertRaises(CourtError):
            fraction(1, 0)

    def test_against_pythons_own(self):
        random = source(4)
        for turn in range(300):
            top, bottom = some_whole(random, random.choice((1, 70))), some_whole(random, random.choice((1, 70)))
            if bottom:
                self.assertEqual(fraction(top, bottom), told(Fraction(top, bottom)))


class Deeds(unittest.TestCase):

    def pairs(self):
        random = source(5)
        sizes = (1, 2, 60, 400)
        for turn in range(300):
            yield some_fraction(random, random.choice(sizes)), some_fraction(random, random.choice(sizes))

    def lowest(self, thing):
        self.assertIs(type(thing), tuple)
        self.assertGreaterEqual(thing[1], 1)
        self.assertEqual(math.gcd(thing[0], thing[1]), 1)

    def test_by_multiplying_across(self):
        for one, other in self.pairs():
            (a, b), (c, d) = told(one), told(other)
            found = plus((a, b), (c, d))
            self.lowest(found)
            self.assertEqual(found[0] * b * d, found[1] * (a * d + b * c))
            found = minus((a, b), (c, d))
            self.lowest(found)
            self.assertEqual(found[0] * b * d, found[1] * (a * d - b * c))
            found = times((a, b), (c, d))
            self.lowest(found)
            self.assertEqual(found[0] * b * d, found[1] * a * c)
            if c != 0:
                found = over((a, b), (c, d))
                self.lowest(found)
                self.assertEqual(found[0] * b * c, found[1] * a * d)

    def test_small_ones(self):
        self.assertEqual(plus((1, 2), (1, 2)), (1, 1))
        self.assertEqual(plus((1, 6), (1, 3)), (1, 2))
        self.assertEqual(plus((1, 2), (-1, 2)), (0, 1))
        self.assertEqual(minus((1, 2), (1, 2)), (0, 1))
        self.assertEqual(minus((0, 1), (2, 3)), (-2, 3))
        self.assertEqual(times((2, 3), (3, 2)), (1, 1))
        self.assertEqual(times((0, 1), (3, 7)), (0, 1))
        self.assertEqual(times((-2, 3), (-3, 4)), (1, 2))
        self.assertEqual(over((1, 2), (-3, 4)), (-2, 3))
        self.assertEqual(over((0, 1), (-3, 4)), (0, 1))

    def test_over_nought_is_refused(self):
        for one in ((0, 1), (1, 1), (-3, 2), (GREAT, 2)):
            with self.assertRaises(NoPart):
                over(one, (0, 1))

    def test_less(self):
        for one, other in self.pairs():
            self.assertIs(less(told(one), told(other)), one < other)
            self.assertIs(less(told(one), told(one)), False)
        self.assertIs(less((-1, 2), (-1, 3)), True)
        self.assertIs(less((1, 3), (1, 2)), True)
        self.assertIs(less((1, 2), (1, 3)), False)
        self.assertIs(less((GREAT, GREAT + 1), (GREAT + 1, GREAT + 2)), True)

    def test_sign(self):
        self.assertEqual([sign(one) for one in ((-3, 2), (0, 1), (1, 7), (-GREAT, 1), (GREAT, 2))], [-1, 0, 1, -1, 1])
        for one in ((-3, 2), (0, 1), (1, 7)):
            self.assertIs(type(sign(one)), int)

    def test_asked_again_it_answers_equally(self):
        for one, other in list(self.pairs())[:20]:
            self.assertEqual(meant(plus(told(one), told(other))), one + other)
            self.assertEqual(plus(told(one), told(other)), plus(told(one), told(other)))


if __name__ == "__main__":
    unittest.main()
