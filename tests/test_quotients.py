import unittest
from fractions import Fraction
from math import gcd, lcm

from rootcourt.errors import CourtError, NoPart
from rootcourt.polys import is_poly
from rootcourt.quotients import (is_quotient, q_derived, q_minus, q_of, q_over, q_paper, q_plus, q_right, q_times,
                                 q_value)
from tests.helper import (Odd, added, anything, common_part, divided, multiplied, slope, some_fraction, some_poly,
                          source, spoiled, told, value_at)

NOUGHT = ((), (1,))
GREAT = 10 ** 120 + 3


def plain_form(p, q):
    """The plain form by Euclid's way with fractions."""
    part = common_part(p, q)
    top, bottom = divided(p, part)[0], divided(q, part)[0]
    scale = lcm(*[weight.denominator for weight in top + bottom])
    shared = gcd(*[int(weight * scale) for weight in top + bottom])
    if bottom[-1] < 0:
        shared = -shared
    return tuple(tuple(int(weight * scale) // shared for weight in one) for one in (top, bottom))


def some_pairs(seed, many):
    """Pairs of polynomials, many of them with common parts or numbers, the second not nought."""
    random = source(seed)
    for turn in range(many):
        figures = random.choice((1, 1, 2, 30))
        part = some_poly(random, 2, 1)
        number = (random.choice((1, 1, 2, -6)),)
        top = multiplied(some_poly(random, 3, figures), part, number)
        bottom = multiplied(some_poly(random, 3, figures), part, (random.choice((1, -1, 4)),))
        yield (() if turn % 11 == 0 else top), bottom


def some_quotients(seed, many):
    return [q_of(p, q) for p, q in some_pairs(seed, many)]


def valued(f, point):
    """A quotient's value as Python's own fraction, or None where its bottom is 0."""
    bottom = value_at(f[1], point)
    return None if bottom == 0 else value_at(f[0], point) / bottom


class PlainForms(unittest.TestCase):

    def test_written_ones(self):
        self.assertEqual(q_of((-1, 0, 1), (1, 1)), ((-1, 1), (1,)))
        self.assertEqual(q_of((1, 1), (-1, 0, 1)), ((1,), (-1, 1)))
        self.assertEqual(q_of((2, 4), (6,)), ((1, 2), (3,)))
        self.assertEqual(q_of((6,), (-4,)), ((-3,), (2,)))
        self.assertEqual(q_of((1,), (1, -1)), ((-1,), (-1, 1)))
        self.assertEqual(q_of((0, 2), (0, 0, 4)), ((1,), (0, 2)))
        self.assertEqual(q_of((3, 6), (9, 3)), ((1, 2), (3, 1)))
        self.assertEqual(q_of((1, 2, 1), (1, 2, 1)), ((1,), (1,)))

    def test_nought_over_something(self):
        for q in ((1,), (-7,), (0, 1), (3, -2), (1, 0, 0, GREAT)):
            self.assertEqual(q_of((), q), NOUGHT)

    def test_over_nought(self):
        for p in ((), (1,), (0, 1), (2, -4)):
            for told_of in (q_of, q_paper):
                for refusal in (NoPart, CourtError):
                    with self.assertRaises(refusal):
                        told_of(p, ())

    def test_random_ones(self):
        for p, q in some_pairs(300, 300):
            found = q_of(p, q)
            self.assertEqual(found, plain_form(p, q))
            self.assertIs(type(found), tuple)
            self.assertEqual(multiplied(found[0], q), multiplied(found[1], p))
            self.assertIs(is_quotient(found), True)
            self.assertEqual(is_quotient((p, q)), found == (p, q))

    def test_great_ones(self):
        self.assertEqual(q_of((GREAT, 0, GREAT), (0, GREAT)), ((1, 0, 1), (0, 1)))
        self.assertEqual(q_of(multiplied((GREAT, 1), (7, GREAT)), multiplied((-GREAT, -1), (1, 3))),
                         ((-7, -GREAT), (1, 3)))


class WhatIsOne(unittest.TestCase):

    def test_right_ones(self):
        for thing in (NOUGHT, ((1,), (1,)), ((-5,), (3,)), ((0, 1), (1,)), ((1,), (0, 1)), ((2, 4), (3,)),
                      ((2,), (2, 4, 3)), ((-1, 1), (1, 1)), ((4, 2), (2, 3))):
            self.assertIs(is_quotient(thing), True)

    def test_with_one_thing_not_so(self):
        for thing in (((), ()), ((1,), ()), ((), (2,)), ((), (0, 1)), ((), (-1,)), ((1,), (-1,)), ((2,), (4,)),
                      ((2, 2), (4, 6)), ((-1, 0, 1), (1, 1)), ((0, 1), (0, 1)), ((0, 1), (0, 2)), ((1, 1), (1, -1)),
                      ((0, 2), (0, 3)), ((1, 2, 1), (3, 3)), ((1, 0), (1,)), ((1,), (1, 0)), ((1,), (0,)),
                      ((True,), (2,)), ((1,), (True,)), ((1,), (1, True)), ([1], (1,)), ((1,), [1]), ((1.0,), (1,)),
                      ((1,), (1.0,)), ((1,), (1,), (1,)), ((1,),), (), ("1", (1,)), ((1,), "1"), ((1,), None),
                      (None, (1,)), [(1,), (1,)], (1, 1), (1, (1,)), ((1,), 1), ((1,), Odd()), (Odd(), (1,)),
                      ((Odd(),), (1,)), ((1,), (Odd(),)), {0: (1,), 1: (1,)}):
            self.assertIs(is_quotient(thing), False)

    def test_anything(self):
        for thing in anything():
            self.assertIs(is_quotient(thing), False)
            self.assertIs(is_quotient(((1,), thing)), False)
            self.assertIs(is_quotient((thing, (3,))), False)


class Papers(unittest.TestCase):

    def check(self, p, q, paper):
        top, bottom, a, b, c = paper
        self.assertEqual((top, bottom), plain_form(p, q))
        self.assertTrue(all(is_poly(one) for one in (top, bottom, a, b)))
        self.assertTrue(type(c) is int and c != 0)
        self.assertEqual(added(multiplied(a, top), multiplied(b, bottom)), (c,))
        self.assertIs(q_right(p, q, paper), True)

    def test_told_ones(self):
        for p, q in list(some_pairs(301, 150)) + [((), (5,)), ((0, 2), (4,)), ((7,), (0, 0, 1)), ((1, 2), (1, 2))]:
            paper = q_paper(p, q)
            self.assertIs(type(paper), tuple)
            self.assertEqual(len(paper), 5)
            self.check(p, q, paper)

    def test_of_others(self):
        for p, q in some_pairs(302, 60):
            top, bottom, a, b, c = q_paper(p, q)
            thrice = (top, bottom, multiplied(a, (3,)), multiplied(b, (3,)), 3 * c)
            turned = (top, bottom, multiplied(a, (-1,)), multiplied(b, (-1,)), -c)
            more = (top, bottom, added(a, multiplied((5, 1), bottom)), added(b, multiplied((-5, -1), top)), c)
            for paper in (thrice, turned, more):
                self.check(p, q, paper)

    def test_with_one_thing_not_so(self):
        for p, q in list(some_pairs(303, 12)) + [((-1, 0, 1), (1, 1)), ((2,), (3,)), ((4, 2), (2, 6))]:
            if p != ():
                for paper in spoiled(q_paper(p, q)):
                    if not self.is_so(p, q, paper):
                        self.assertIs(q_right(p, q, paper), False)

    def is_so(self, p, q, paper):
        """Whether a spoiled paper happens to be right, as where a times nought is changed."""
        if type(paper) is not tuple or len(paper) != 5 or not all(is_poly(one) for one in paper[:4]):
            return False
        top, bottom, a, b, c = paper
        if type(c) is not int or c == 0 or bottom == () or (top, bottom) != plain_form(p, q):
            return False
        return added(multiplied(a, top), multiplied(b, bottom)) == (c,)

    def test_the_number(self):
        self.assertIs(q_right((1,), (1,), ((1,), (1,), (1,), (), 1)), True)
        self.assertIs(q_right((1,), (1,), ((1,), (1,), (1,), (), True)), False)
        self.assertIs(q_right((1,), (1,), ((1,), (1,), (1,), (-1,), 0)), False)
        self.assertIs(q_right((1,), (1,), ((1,), (1,), (), (), 0)), False)
        self.assertIs(q_right((1,), (1,), ((1,), (1,), (1,), (), 1.0)), False)

    def test_what_divides_all_weights(self):
        self.assertIs(q_right((2,), (4,), ((1,), (2,), (1,), (), 1)), True)
        self.assertIs(q_right((2,), (4,), ((2,), (4,), (1,), (), 2)), False)
        self.assertIs(q_right((2, 2), (4,), ((2, 2), (4,), (), (1,), 4)), False)
        self.assertIs(q_right((2, 2), (4,), ((1, 1), (2,), (), (1,), 2)), True)

    def test_the_sign_of_the_bottom(self):
        self.assertIs(q_right((1,), (-2,), ((-1,), (2,), (), (1,), 2)), True)
        self.assertIs(q_right((1,), (-2,), ((1,), (-2,), (), (1,), -2)), False)
        self.assertIs(q_right((0, 1), (1, -1), ((0, -1), (-1, 1), (-1,), (-1,), 1)), True)
        self.assertIs(q_right((0, 1), (1, -1), ((0, 1), (1, -1), (1,), (1,), 1)), False)

    def test_common_parts_are_not_let_by(self):
        p, q = (-1, 0, 1), (1, 1)
        self.assertIs(q_right(p, q, ((-1, 1), (1,), (), (1,), 1)), True)
        for c in (1, -1, 2):
            self.assertIs(q_right(p, q, (p, q, (1,), (1, -1), c)), False)
        self.assertIs(q_right(p, q, (p, q, (), (1,), 1)), False)

    def test_another_quotient(self):
        self.assertIs(q_right((1, 1), (1,), ((2, 1), (1,), (), (1,), 1)), False)
        self.assertIs(q_right((1, 1), (1,), ((1,), (1, 1), (1,), (), 1)), False)
        self.assertIs(q_right((1, 1), (1,), ((), (1,), (), (1,), 1)), False)
        self.assertIs(q_right((), (1,), ((), (1,), (), (1,), 1)), True)
        self.assertIs(q_right((), (1,), ((), (), (), (), 1)), False)

    def test_over_nought(self):
        for p in ((), (1,), (0, 1)):
            for paper in (((), (1,), (), (1,), 1), ((1,), (), (1,), (), 1), ((), (), (), (), 0), ((), (), (), (), 1),
                          (p, (1,), (), (1,), 1)):
                self.assertIs(q_right(p, (), paper), False)
            for thing in anything():
                self.assertIs(q_right(p, (), thing), False)

    def test_anything(self):
        for p, q in (((1, 1), (1,)), ((), (2,)), ((0, 1), (3, 1))):
            paper = q_paper(p, q)
            for thing in anything():
                self.assertIs(q_right(p, q, thing), False)
                for place in range(5):
                    spoilt = paper[:place] + (thing,) + paper[place + 1:]
                    if not self.is_so(p, q, spoilt):
                        self.assertIs(q_right(p, q, spoilt), False)


class Deeds(unittest.TestCase):

    POINTS = [Fraction(point, 7) for point in range(-20, 20, 3)]

    def check(self, found, expected, inputs):
        self.assertEqual(found, plain_form(found[0], found[1]))
        many = 0
        for point in self.POINTS:
            values = [valued(f, point) for f in inputs]
            if None not in values:
                wanted = expected(point, values)
                if wanted is not None:
                    self.assertEqual(valued(found, point), wanted)
                    many += 1
        # As many points as the degrees need to tell the quotients apart.
        self.assertGreater(many, 5)

    def test_random_ones(self):
        some = some_quotients(310, 120)
        for f, g in zip(some, some[1:]):
            self.check(q_plus(f, g), lambda point, values: values[0] + values[1], (f, g))
            self.check(q_minus(f, g), lambda point, values: values[0] - values[1], (f, g))
            self.check(q_times(f, g), lambda point, values: values[0] * values[1], (f, g))
            if g != NOUGHT:
                self.check(q_over(f, g), lambda point, values: values[0] / values[1] if values[1] else None, (f, g))

    def test_against_the_plain_form(self):
        some = some_quotients(311, 60)
        for f, g in zip(some, some[1:]):
            cross, turned = multiplied(f[0], g[1]), multiplied(g[0], f[1])
            bottom = multiplied(f[1], g[1])
            self.assertEqual(q_plus(f, g), plain_form(added(cross, turned), bottom))
            self.assertEqual(q_minus(f, g), plain_form(added(cross, multiplied(turned, (-1,))), bottom))
            self.assertEqual(q_times(f, g), plain_form(multiplied(f[0], g[0]), bottom))
            if g != NOUGHT:
                self.assertEqual(q_over(f, g), plain_form(cross, turned))

    def test_other_rows_of_deeds_tell_equal_tuples(self):
        some = some_quotients(312, 30)
        for f, g, h in zip(some, some[1:], some[2:]):
            self.assertEqual(q_times(q_plus(f, g), h), q_plus(q_times(f, h), q_times(g, h)))
            self.assertEqual(q_minus(q_plus(f, g), g), f)
            self.assertEqual(q_derived(q_times(f, g)),
                             q_plus(q_times(q_derived(f), g), q_times(f, q_derived(g))))
            if g != NOUGHT:
                self.assertEqual(q_times(q_over(f, g), g), f)

    def test_written_ones(self):
        half, over_x = ((1,), (2,)), ((1,), (0, 1))
        self.assertEqual(q_plus(half, half), ((1,), (1,)))
        self.assertEqual(q_plus(half, over_x), ((2, 1), (0, 2)))
        self.assertEqual(q_minus(half, over_x), ((-2, 1), (0, 2)))
        self.assertEqual(q_times(half, ((0, 2), (1, 1))), ((0, 1), (1, 1)))
        self.assertEqual(q_over(half, ((0, -2), (1, 1))), ((-1, -1), (0, 4)))
        self.assertEqual(q_derived(over_x), ((-1,), (0, 0, 1)))
        self.assertEqual(q_derived(((0, 0, 1), (3,))), ((0, 2), (3,)))

    def test_what_comes_to_nought(self):
        for f in some_quotients(313, 30):
            self.assertEqual(q_minus(f, f), NOUGHT)
            self.assertEqual(q_plus(f, (tuple(-weight for weight in f[0]), f[1])), NOUGHT)
            self.assertEqual(q_times(f, NOUGHT), NOUGHT)
            self.assertEqual(q_times(NOUGHT, f), NOUGHT)
            self.assertEqual(q_plus(f, NOUGHT), f)
            if f != NOUGHT:
                self.assertEqual(q_over(NOUGHT, f), NOUGHT)
                self.assertEqual(q_over(f, f), ((1,), (1,)))

    def test_over_nought(self):
        for f in (NOUGHT, ((1,), (1,)), ((1, 1), (0, 2))):
            for refusal in (NoPart, CourtError):
                with self.assertRaises(refusal):
                    q_over(f, NOUGHT)

    def test_derivatives(self):
        for f in (NOUGHT, ((1,), (1,)), ((-5,), (3,)), ((GREAT,), (2,))):
            self.assertEqual(q_derived(f), NOUGHT)
        for f in some_quotients(314, 80):
            found = q_derived(f)
            self.assertEqual(found, plain_form(found[0], found[1]))
            for point in self.POINTS:
                here = valued(f, point)
                if here is not None:
                    wanted = (value_at(slope(f[0]), point) - here * value_at(slope(f[1]), point)) / value_at(f[1], point)
                    self.assertEqual(valued(found, point), wanted)

    def test_values(self):
        random = source(315)
        for f in some_quotients(316, 60):
            for turn in range(5):
                point = some_fraction(random, random.choice((1, 2, 40)))
                expected = valued(f, point)
                if expected is not None:
                    self.assertEqual(q_value(f, told(point)), told(expected))
        self.assertEqual(q_value(NOUGHT, (5, 3)), (0, 1))
        self.assertEqual(q_value(((0, 1), (1, 1)), (0, 1)), (0, 1))
        self.assertEqual(q_value(((0, 1), (1, 1)), (-3, 1)), (3, 2))

    def test_values_where_the_bottom_is_nought(self):
        for f, r in ((((1,), (0, 1)), (0, 1)), (((1,), (-1, 2)), (1, 2)), (((5, 1), (-2, -1, 1)), (2, 1)),
                     (((5, 1), (-2, -1, 1)), (-1, 1))):
            self.assertIs(is_quotient(f), True)
            for refusal in (NoPart, CourtError):
                with self.assertRaises(refusal):
                    q_value(f, r)


if __name__ == "__main__":
    unittest.main()
