import unittest
from fractions import Fraction
from math import lcm

from rootcourt.changes import above, below, between, changes
from rootcourt.polys import is_poly
from tests.helper import added, multiplied, roots_below, some_fraction, some_poly, source, told, value_at

GREAT = 10 ** 70 + 9


def mixed(p, over, under):
    """The sum of all weights times over^i under^(n - i), power by power."""
    size = len(p) - 1
    found = ()
    for place, weight in enumerate(p):
        found = added(found, multiplied((weight,), *[over] * place, *[under] * (size - place)))
    return found


def seen(p, point, far):
    """D^n p(point + far x)."""
    return mixed(p, (point.numerator, far * point.denominator), (point.denominator,))


def seen_within(p, lo, hi):
    bottom = lcm(lo.denominator, hi.denominator)
    return mixed(p, (int(lo * bottom), int(hi * bottom)), (bottom, bottom))


def samples(seed, many):
    random = source(seed)
    for turn in range(many):
        figures = random.choice((1, 1, 3, 40))
        p = () if random.random() < 0.05 else some_poly(random, 7, figures)
        lo, hi = some_fraction(random, figures), some_fraction(random, figures)
        if lo == hi:
            hi = lo + 1
        yield p, min(lo, hi), max(lo, hi)


class Changes(unittest.TestCase):

    def test_ordinary_ones(self):
        self.assertEqual(changes((1, 2, 3)), 0)
        self.assertEqual(changes((-1, -2, -3)), 0)
        self.assertEqual(changes((-1, 2, 3)), 1)
        self.assertEqual(changes((1, -2, 3)), 2)
        self.assertEqual(changes((1, -1, 1, -1, 1)), 4)
        self.assertEqual(changes((GREAT, -1, GREAT)), 2)

    def test_noughts_between_weights(self):
        self.assertEqual(changes((1, 0, 1)), 0)
        self.assertEqual(changes((1, 0, -1)), 1)
        self.assertEqual(changes((-1, 0, 0, 1, 0, -1)), 2)
        self.assertEqual(changes((0, 0, 1)), 0)
        self.assertEqual(changes((0, -1, 0, 1)), 1)

    def test_constants_and_nought(self):
        self.assertEqual([changes(p) for p in ((), (1,), (-5,))], [0, 0, 0])


class AboveAndBelow(unittest.TestCase):

    def test_small_ones(self):
        self.assertEqual(above((-2, 0, 1), (1, 1)), (-1, 2, 1))
        self.assertEqual(below((-2, 0, 1), (1, 1)), (-1, -2, 1))
        self.assertEqual(above((-2, 0, 1), (3, 2)), (1, 12, 4))
        self.assertEqual(below((-2, 0, 1), (3, 2)), (1, -12, 4))
        self.assertEqual(above((-2, 0, 1), (-3, 2)), (1, -12, 4))
        self.assertEqual(below((0, 1), (0, 1)), (0, -1))
        self.assertEqual(above((-1, 2), (1, 2)), (0, 4))

    def test_constants_and_nought(self):
        for c in ((0, 1), (-7, 3), (GREAT, 2)):
            self.assertEqual(above((), c), ())
            self.assertEqual(below((), c), ())
            self.assertEqual(above((5,), c), (5,))
            self.assertEqual(below((5,), c), (5,))

    def test_against_fractions(self):
        for p, c, other in samples(40, 200):
            self.assertEqual(above(p, told(c)), seen(p, c, 1))
            self.assertEqual(below(p, told(c)), seen(p, c, -1))
            self.assertTrue(is_poly(above(p, told(c))) and is_poly(below(p, told(c))))


class Between(unittest.TestCase):

    def test_the_documents_example(self):
        self.assertEqual(between((-2, 0, 1), (1, 1), (3, 2)), (-4, -4, 1))
        self.assertEqual(changes(between((-2, 0, 1), (1, 1), (3, 2))), 1)

    def test_unlike_bottoms_below_and_above_nought(self):
        self.assertEqual(between((0, 1), (-1, 2), (1, 3)), (-3, 2))
        self.assertEqual(between((1, 1), (-1, 4), (1, 6)), (9, 14))
        self.assertEqual(between((0, 1), (-3, 2), (-1, 3)), (-9, -2))

    def test_nought_at_the_ends(self):
        self.assertEqual(between((-1, 1), (0, 1), (1, 1)), (-1,))
        self.assertEqual(between((-1, 1), (1, 1), (2, 1)), (0, 1))
        self.assertEqual(between((2, -3, 1), (1, 1), (2, 1)), (0, -1))
        self.assertEqual(between((-1, 2), (0, 1), (1, 2)), (-2,))
        self.assertEqual(between((0, 1), (-1, 1), (0, 1)), (-1,))

    def test_constants_and_nought(self):
        for lo, hi in (((0, 1), (1, 1)), ((-1, 2), (1, 3)), ((-GREAT, 1), (1, GREAT))):
            self.assertEqual(between((), lo, hi), ())
            self.assertEqual(between((-5,), lo, hi), (-5,))

    def test_against_fractions(self):
        for p, lo, hi in samples(41, 200):
            found = between(p, told(lo), told(hi))
            self.assertEqual(found, seen_within(p, lo, hi))
            self.assertTrue(is_poly(found))

    def test_a_polynomial_that_is_nought_at_an_end(self):
        for p, lo, hi in samples(42, 60):
            for end in (lo, hi):
                product = multiplied(p, (-end.numerator, end.denominator))
                self.assertEqual(between(product, told(lo), told(hi)), seen_within(product, lo, hi))


class WhatChangesTell(unittest.TestCase):

    def test_none_or_one_between(self):
        random = source(43)
        seen_counts = {0: 0, 1: 0}
        for turn in range(300):
            p = some_poly(random, 5, 1)
            lo = some_fraction(random, 1)
            hi = lo + abs(some_fraction(random, 1)) + Fraction(1, 7)
            many = changes(between(p, told(lo), told(hi)))
            if many < 2 and len(p) > 1 and value_at(p, lo) != 0 and value_at(p, hi) != 0:
                self.assertEqual(roots_below(p, hi) - roots_below(p, lo), many)
                seen_counts[many] += 1
        self.assertTrue(seen_counts[0] > 20 and seen_counts[1] > 20)


if __name__ == "__main__":
    unittest.main()
