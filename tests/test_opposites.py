import unittest
from fractions import Fraction

from rootcourt.cuts import roots_of
from rootcourt.errors import CourtError, NoInverse
from rootcourt.numbers import beside, is_number, number
from rootcourt.opposites import inverse_of, minus_of
from tests.helper import (ROOT_TWO, made_plain, meant, multiplied, point, some_poly, source, squeezed, stretch, told,
                          trimmed, turns)
from tests.test_changes import seen_within

GREAT = 10 ** 80 + 7
HUGE = 10 ** 2000
# Behind the root 0, which the turned polynomial loses, changes hide that show without it.
HIDING = (0, -3, 13, -20, 10)


def samples():
    return [
        ROOT_TWO,
        stretch((-2, 0, 1), -2, -1),
        stretch((-2, 0, 1), 0, 2),
        stretch((-2, 0, 1), -2, 0),
        stretch((-2, 0, 1), -1, 100),
        stretch((-2, 0, 1), -100, 1),
        stretch((-1, 2), 0, 1),
        stretch((-1, 2), -9, 1),
        stretch((1, 3), -9, 9),
        stretch((0, -2, 0, 1), 1, 2),
        stretch((0, -2, 0, 1), -2, -1),
        stretch((0, -2, 0, 1), Fraction(1, 10 ** 9), 2),
        stretch((-1, GREAT), -1, 1),
        stretch((-1, 0, GREAT), Fraction(-1, GREAT), 1),
        stretch((-5, 1, 0, 1), Fraction(-1, 2), 7),
        stretch((-HUGE, 0, 1), -1, HUGE),
        stretch((-1, 0, HUGE), -1, 0),
        stretch((-1, HUGE, 1), Fraction(-1, 2), 1),
        stretch(HIDING, Fraction(1, 2), 3),
    ]


def random_samples(seed):
    random = source(seed)
    for turn in range(60):
        p = some_poly(random, 5, random.choice((1, 2, 30)))
        yield from roots_of(multiplied(p, (0, 1)) if turn % 3 == 0 else p)


class Minus(unittest.TestCase):

    def check(self, n):
        found = minus_of(n)
        self.assertIs(is_number(found), True)
        turned = tuple(weight * (-1) ** place for place, weight in enumerate(n[0]))
        self.assertEqual(found[0], made_plain(turned))
        lo, hi = squeezed(n, Fraction(1, 10 ** 20))
        expected = (0, 0) if lo == hi else (-1, 1)
        self.assertEqual((beside(found, told(-lo)), beside(found, told(-hi))), expected)

    def test_points(self):
        for r in (Fraction(0), Fraction(3, 2), Fraction(-3, 2), Fraction(GREAT), Fraction(-1, GREAT)):
            self.assertEqual(minus_of(point(r)), point(-r))

    def test_stretches(self):
        for n in samples() + [stretch((0, 1), -1, 2), stretch((0, -2, 0, 1), -1, 1)]:
            self.check(n)

    def test_random_ones(self):
        for n in random_samples(100):
            self.check(n)

    def test_the_polynomial(self):
        self.assertEqual(minus_of(stretch((-5, 1, 0, 1), 0, 7))[0], (5, 1, 0, 1))
        self.assertEqual(minus_of(stretch((-1, 2), 0, 1))[0], (1, 2))
        self.assertEqual(minus_of(ROOT_TWO)[0], (-2, 0, 1))

    def test_fractions_beside_it(self):
        found = minus_of(ROOT_TWO)
        self.assertEqual([beside(found, r) for r in ((-3, 2), (-7, 5), (-1, 1), (7, 5))], [1, -1, -1, -1])


class Inverse(unittest.TestCase):

    def check(self, n):
        found = inverse_of(n)
        self.assertIs(is_number(found), True)
        self.assertEqual(found[0], made_plain(trimmed(n[0][::-1])))
        lo, hi = squeezed(n, Fraction(1, 10 ** 20))
        while lo * hi <= 0 < hi - lo:
            lo, hi = squeezed((n[0], told(lo), told(hi)), (hi - lo) / 2)
        self.assertEqual(beside(found, (0, 1)), 1 if lo > 0 else -1)
        expected = (0, 0) if lo == hi else (-1, 1)
        self.assertEqual((beside(found, told(1 / lo)), beside(found, told(1 / hi))), expected)

    def test_points(self):
        for r in (Fraction(1), Fraction(-1), Fraction(3, 2), Fraction(-3, 2), Fraction(GREAT), Fraction(-1, GREAT)):
            self.assertEqual(inverse_of(point(r)), point(1 / r))

    def test_stretches(self):
        for n in samples():
            self.assertIs(is_number(n), True)
            self.check(n)

    def test_random_ones(self):
        many = 0
        for n in random_samples(101):
            if beside(n, (0, 1)) != 0:
                self.check(n)
                many += 1
        self.assertGreater(many, 60)

    def test_the_polynomial(self):
        self.assertEqual(inverse_of(ROOT_TWO)[0], (-1, 0, 2))
        self.assertEqual(inverse_of(stretch((-2, 0, 1), -2, -1))[0], (-1, 0, 2))
        self.assertEqual(inverse_of(stretch((0, -2, 0, 1), 1, 2))[0], (-1, 0, 2))
        self.assertEqual(inverse_of(stretch((-5, 1, 0, 1), 0, 7))[0], (-1, 0, -1, 5))
        self.assertEqual(inverse_of(stretch((-1, 2), 0, 1))[0], (-2, 1))

    def test_changes_that_the_root_nought_hid(self):
        n = stretch(HIDING, Fraction(1, 2), 3)
        self.assertGreater(turns(seen_within(HIDING[1:], meant(n[1]), meant(n[2]))), 1)
        self.check(n)

    def test_fractions_beside_it(self):
        found = inverse_of(ROOT_TWO)
        self.assertEqual([beside(found, r) for r in ((-1, 1), (0, 1), (2, 3), (5, 7), (1, 1))], [1, 1, 1, -1, -1])
        found = inverse_of(stretch((-2, 0, 1), -2, -1))
        self.assertEqual([beside(found, r) for r in ((-1, 1), (-5, 7), (-2, 3), (0, 1), (1, 1))], [1, 1, -1, -1, -1])

    def test_nought_is_refused(self):
        for n in (number((0, 1)), stretch((0, 1), -1, 1), stretch((0, -2, 0, 1), -1, 1),
                  stretch((0, 1), Fraction(-1, GREAT), HUGE), stretch((0, -1, 1), -1, Fraction(1, 2))):
            self.assertIs(is_number(n), True)
            with self.assertRaises(NoInverse):
                inverse_of(n)
            with self.assertRaises(CourtError):
                inverse_of(n)


if __name__ == "__main__":
    unittest.main()
