import unittest
from fractions import Fraction

from rootcourt.cuts import roots_of
from rootcourt.numbers import beside, halved, is_number, number
from tests.helper import (ROOT_TWO, Odd, anything, linear, meant, multiplied, point, some_fraction, some_poly, source,
                          squeezed, stretch, told, value_at)
from tests.test_cuts import free_samples

GREAT = 10 ** 399 + 7
HUGE = 10 ** 2000


def irrational_numbers():
    yield ROOT_TWO
    yield stretch((-2, 0, 1), -2, Fraction(-7, 5))
    yield stretch((-2, 0, 1), 0, 100)
    yield stretch((-5, 1, 0, 1), Fraction(3, 2), Fraction(5, 3))
    yield stretch((-3, 0, 0, 0, 7), Fraction(-5, 6), Fraction(-1, 10))
    yield stretch((-HUGE, 0, 3), 0, HUGE)
    yield stretch((-3, 0, HUGE), 0, 3)


class IsNumber(unittest.TestCase):

    def yes(self, thing):
        self.assertIs(is_number(thing), True)

    def no(self, thing):
        self.assertIs(is_number(thing), False)

    def test_points(self):
        for number_told in (0, 5, -3, Fraction(-7, 2), Fraction(1, GREAT), Fraction(GREAT, 3)):
            self.yes(point(number_told))

    def test_stretches(self):
        for n in irrational_numbers():
            self.yes(n)
        self.yes(stretch((-1, 2), 0, 1))
        self.yes(stretch((0, 1), -1, Fraction(1, 3)))
        self.yes(stretch(multiplied((-1, 1), (-5, 1), (1, 0, 1)), 0, 2))

    def test_roots_that_are_told(self):
        for p in list(free_samples()) + [multiplied((-3,), (-1, 1), (-1, 1), (2, 3))]:
            for n in roots_of(p):
                self.yes(n)

    def test_not_plain(self):
        self.no(stretch((-4, 0, 2), 1, 2))
        self.no(stretch((2, 0, -1), 1, 2))
        self.no(((1, -2), (1, 2), (1, 2)))
        self.no(((-2, 4), (1, 2), (1, 2)))

    def test_not_free(self):
        self.no(stretch(multiplied((-2, 1), (5, 1), (5, 1)), 1, 3))
        self.no(stretch(multiplied((-2, 1), (1, 0, 1), (1, 0, 1)), Fraction(15, 8), Fraction(17, 8)))
        self.no(stretch((0, 0, 0, 1), -1, 1))

    def test_constants_and_nought(self):
        for p in ((), (1,), (-1,), (5,)):
            self.no(stretch(p, 1, 2))
            self.no(stretch(p, -1, 1))
            self.no(stretch(p, 1, 1))
            self.no(stretch(p, 0, 0))

    def test_nought_at_an_end(self):
        self.no(stretch((-1, 1), 1, 2))
        self.no(stretch((-2, 1), 1, 2))
        both = multiplied((-1, 1), (-2, 0, 1))
        self.yes(stretch(both, Fraction(11, 10), 2))
        self.no(stretch(both, 1, 2))
        self.no(stretch(multiplied((-2, 1), (-2, 0, 1)), Fraction(11, 10), 2))

    def test_other_changes_than_one(self):
        self.no(stretch((-2, 0, 1), 2, 3))
        self.no(stretch((-2, 0, 1), -2, 2))
        self.no(stretch((2, -3, 1), 0, 3))
        self.no(stretch((1, 0, 1), -1, 1))
        # One root, but three changes.
        three = multiplied((-1, 2), (251, -1000, 1000))
        self.no(stretch(three, 0, 1))
        self.yes(stretch(three, Fraction(49, 100), Fraction(51, 100)))

    def test_ends_exchanged_or_the_same(self):
        self.no(stretch((-2, 0, 1), 2, 1))
        self.no(stretch((-1, 2), 1, 0))
        self.no(stretch((-2, 0, 1), 1, 1))
        self.no(stretch((-1, 2), 1, 1))
        self.no(stretch((-1, 2), Fraction(1, 3), Fraction(1, 3)))
        self.no(stretch(multiplied((-1, 2), (-2, 0, 1)), Fraction(1, 2), Fraction(1, 2)))

    def test_parts_that_are_no_fractions(self):
        p, lo, hi = ROOT_TWO
        for end in ((2, 2), (1, 0), (-1, -1), [1, 1], 1, (1,), (1, 1, 1), (True, 1), (1, True), None, "1", 1.0,
                    Fraction(1), Odd(), (Odd(), 1)):
            self.no((p, end, hi))
            self.no((p, (-9, 1), end))
            self.no((p, end, end))
            self.no(((-1, 1), end, end))

    def test_what_is_no_polynomial(self):
        for p in ([-2, 0, 1], (-2, 0, 1, 0), (-2, False, 1), (-2, 0, True), (-2, 0, 1.0), "x", None, Odd(),
                  (Odd(), 0, 1), ((-2,), 0, 1), -2, Fraction(2)):
            self.no((p,) + ROOT_TWO[1:])
        self.no(((False, 1), (0, 1), (0, 1)))
        self.no(((-1, True), (1, 1), (1, 1)))
        self.no(([-1, 1], (1, 1), (1, 1)))

    def test_other_shapes(self):
        for n in (ROOT_TWO, point(3)):
            self.no(list(n))
            self.no(n[:2])
            self.no(n[1:])
            self.no(n + ((1, 1),))
            self.no((n,))
            self.no(n + n)

    def test_anything_at_all(self):
        for thing in anything():
            self.no(thing)
            self.no((thing, (1, 1), (2, 1)))
            self.no(((-2, 0, 1), thing, (2, 1)))
            self.no(((-2, 0, 1), (1, 1), thing))
            self.no((thing, thing, thing))


class Number(unittest.TestCase):

    def test_told_as_a_point(self):
        self.assertEqual(number((-3, 2)), ((3, 2), (-3, 2), (-3, 2)))
        self.assertEqual(number((0, 1)), ((0, 1), (0, 1), (0, 1)))
        self.assertEqual(number((7, 5)), ((-7, 5), (7, 5), (7, 5)))
        self.assertEqual(number((GREAT, 2)), ((-GREAT, 2), (GREAT, 2), (GREAT, 2)))

    def test_what_is_told_is_a_number(self):
        random = source(60)
        for turn in range(60):
            r = told(some_fraction(random, random.choice((1, 5, 400))))
            self.assertIs(is_number(number(r)), True)


class Halved(unittest.TestCase):

    def test_to_the_left(self):
        self.assertEqual(halved(ROOT_TWO), ((-2, 0, 1), (1, 1), (3, 2)))
        self.assertEqual(halved(stretch((-1, 3), 0, 1)), ((-1, 3), (0, 1), (1, 2)))

    def test_to_the_right(self):
        self.assertEqual(halved(stretch((-3, 0, 1), 1, 2)), ((-3, 0, 1), (3, 2), (2, 1)))
        self.assertEqual(halved(stretch((-2, 0, 1), -2, -1)), ((-2, 0, 1), (-3, 2), (-1, 1)))

    def test_where_the_middle_is_the_root(self):
        self.assertEqual(halved(stretch((-1, 2), 0, 1)), number((1, 2)))
        self.assertEqual(halved(stretch((0, -2, 0, 1), -1, 1)), number((0, 1)))
        self.assertEqual(halved(stretch(multiplied((3, 2), (-2, 0, 1)), Fraction(-8, 5), Fraction(-7, 5))),
                         number((-3, 2)))

    def test_a_point(self):
        for r in ((-3, 2), (0, 1), (GREAT, 2)):
            self.assertEqual(halved(number(r)), number(r))

    def test_it_stays_the_same_number(self):
        for n in irrational_numbers():
            lo, hi = squeezed(n, Fraction(1, 10 ** 30))
            once = n
            for turn in range(12):
                width = meant(once[2]) - meant(once[1])
                once = halved(once)
                self.assertIs(is_number(once), True)
                self.assertEqual(meant(once[2]) - meant(once[1]), width / 2)
                self.assertEqual(once[0], n[0])
                self.assertEqual((beside(once, told(lo)), beside(once, told(hi))), (1, -1))

    def test_halves_of_all_kinds(self):
        random = source(61)
        seen = {"point": 0, "left": 0, "right": 0}
        for turn in range(1, 150):
            p = some_poly(random, 6, random.choice((1, 1, 20)))
            for n in roots_of(p if turn % 3 else multiplied(p, (0, 1))) + [stretch((-turn, 2), 0, turn)][turn % 3:]:
                half = halved(n)
                self.assertIs(is_number(half), True)
                amid = (meant(n[1]) + meant(n[2])) / 2
                if value_at(n[0], amid) == 0:
                    self.assertEqual(half, number(told(amid)))
                    seen["point"] += 1
                elif value_at(n[0], amid) * value_at(n[0], meant(n[1])) < 0:
                    self.assertEqual(half, (n[0], n[1], told(amid)))
                    seen["left"] += 1
                else:
                    self.assertEqual(half, (n[0], told(amid), n[2]))
                    seen["right"] += 1
        self.assertTrue(min(seen.values()) > 5, seen)


class Beside(unittest.TestCase):

    def test_at_the_ends_and_beyond(self):
        self.assertEqual([beside(ROOT_TWO, r) for r in ((-5, 1), (0, 1), (1, 1), (2, 1), (3, 1))], [1, 1, 1, -1, -1])
        below = stretch((-2, 0, 1), -2, -1)
        self.assertEqual([beside(below, r) for r in ((-3, 1), (-2, 1), (-1, 1), (0, 1), (3, 2))], [1, 1, -1, -1, -1])

    def test_within(self):
        self.assertEqual([beside(ROOT_TWO, r) for r in ((7, 5), (3, 2), (141, 100), (71, 50))],
                         [1, -1, 1, -1])
        falling = stretch((5, 0, -6, 0, 1), Fraction(1, 2), 2)
        self.assertEqual([beside(falling, r) for r in ((9, 10), (1, 1), (11, 10))], [1, 0, -1])

    def test_beyond_the_stretch_where_the_polynomial_has_other_roots(self):
        n = stretch(multiplied((-1, 1), (-2, 1), (-3, 1)), Fraction(3, 2), Fraction(5, 2))
        found = [beside(n, told(Fraction(r, 2))) for r in range(0, 9)]
        self.assertEqual(found, [1, 1, 1, 1, 0, -1, -1, -1, -1])

    def test_a_fraction_told_by_a_stretch(self):
        n = stretch(multiplied((-1, 3), (-2, 0, 1)), 0, 1)
        self.assertEqual([beside(n, r) for r in ((333, 1000), (1, 3), (167, 500))], [1, 0, -1])

    def test_points(self):
        random = source(62)
        for turn in range(100):
            one, other = some_fraction(random, 1), some_fraction(random, 1)
            self.assertEqual(beside(point(one), told(other)), (one > other) - (one < other))
            self.assertEqual(beside(point(one), told(one)), 0)

    def test_fractions_of_many_figures(self):
        for n in irrational_numbers():
            lo, hi = squeezed(n, Fraction(1, 10 ** 420))
            self.assertEqual((beside(n, told(lo)), beside(n, told(hi))), (1, -1))
        close = point(Fraction(1, GREAT))
        self.assertEqual([beside(close, r) for r in ((1, GREAT + 1), (1, GREAT), (1, GREAT - 1))], [1, 0, -1])

    def test_numbers_however_great(self):
        n = stretch((-HUGE * HUGE - 1, 0, 1), 0, 2 * HUGE)
        self.assertEqual((beside(n, (HUGE, 1)), beside(n, (HUGE + 1, 1))), (1, -1))

    def test_whole_numbers_are_told(self):
        for r in ((7, 5), (3, 2), (1, 1), (2, 1)):
            self.assertIs(type(beside(ROOT_TWO, r)), int)


class Polynomials(unittest.TestCase):

    def test_the_point_of_a_fraction_by_its_polynomial(self):
        for r in (Fraction(-3, 2), Fraction(0), Fraction(9)):
            self.assertEqual(number(told(r))[0], linear(r))


if __name__ == "__main__":
    unittest.main()
