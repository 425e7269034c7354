import unittest
from decimal import Decimal, localcontext
from fractions import Fraction
from math import isqrt

from rootcourt.errors import CourtError, TooGreat
from rootcourt.numbers import beside, is_number, number
from rootcourt.radicals import (is_root_sum, root_sum, s_minus, s_number, s_paper, s_plus, s_right, s_sign, s_times,
                                square_in)
from rootcourt.sums import sum_of
from tests.helper import Odd, anything, made_plain, meant, some_fraction, source, told

GREATEST = 10 ** 12
GREAT_PRIME = 999999999989
SQUARED_PRIME = 999983 ** 2
HUGE = 10 ** 380 + 7
DIGITS = 1200


def square_by_search(d):
    return max(s for s in range(1, isqrt(d) + 1) if d % (s * s) == 0)


def added_up(terms):
    """The root sum of pairs (d, Python's fraction), as a dict without noughts."""
    sums = {}
    for d, c in terms:
        s = square_by_search(d)
        sums[d // (s * s)] = sums.get(d // (s * s), Fraction(0)) + c * s
    return {d: c for d, c in sums.items() if c}


def told_sum(sums):
    return tuple((d, told(sums[d])) for d in sorted(sums) if sums[d])


def near(one):
    """The value of a root sum with many figures."""
    with localcontext() as context:
        context.prec = DIGITS
        return sum((Decimal(c[0]) / Decimal(c[1]) * Decimal(d).sqrt() for d, c in one), Decimal(0))


def sign_of(one):
    value = near(one)
    return (value > 0) - (value < 0)


def some_root_sums(seed, many, roots=(2, 3, 5, 6, 7, 10, 30, 101, 9973), most=3):
    random = source(seed)
    found = []
    for turn in range(many):
        ds = random.sample(roots, random.randint(0, most)) + ([1] if random.random() < 0.6 else [])
        sums = {d: some_fraction(random, random.choice((1, 1, 2, 30))) for d in ds}
        found.append(told_sum({d: c for d, c in sums.items() if c}))
    return found


class WhatIsOne(unittest.TestCase):

    def test_right_ones(self):
        for thing in ((), ((1, (1, 1)),), ((1, (-3, 7)),), ((2, (1, 1)),), ((1, (1, 2)), (2, (-1, 1))),
                      ((2, (1, 1)), (3, (1, 1)), (5, (1, 1))), ((1, (1, 1)), (2, (1, 1)), (3, (1, 1)), (5, (1, 1))),
                      ((GREAT_PRIME, (HUGE, 3)),), ((GREATEST - 2, (1, 1)),), ((30, (1, 1)), (999983 * 999979, (5, 2))),
                      ((2 * 3 * 5 * 7 * 11 * 13 * 17 * 19 * 23 * 29 * 31, (1, 1)),)):
            self.assertIs(is_root_sum(thing), True)
        for one in some_root_sums(400, 60):
            self.assertIs(is_root_sum(one), True)

    def test_every_small_d(self):
        for d in range(-3, 2000):
            self.assertIs(is_root_sum(((d, (1, 1)),)), d >= 1 and square_by_search(d) == 1)

    def test_squares_in_a_great_d(self):
        for d in (SQUARED_PRIME, 4 * 249999999997, 9 * 11, 10 ** 12, 999999 ** 2, 2 * 707099 ** 2, 3 * 577349 ** 2,
                  9973 ** 2 * 10007, 9967 ** 3, 7 * 377963 ** 2, 49 * 20408163263, 99991 ** 2 * 97):
            self.assertLessEqual(d, GREATEST)
            self.assertIs(is_root_sum(((d, (1, 1)),)), False)
        for d in (999983 * 999979, 999983, 9973 * 10007 * 10009, 707099 * 2, 97 * 99991, 2 * 3 * 166666666651):
            self.assertIs(is_root_sum(((d, (1, 1)),)), True)

    def test_with_one_thing_not_so(self):
        ones = ((2, (1, 1)), (3, (1, 1)), (5, (1, 1)), (6, (1, 1)))
        for thing in (ones, ((1, (1, 1)),) + ones, ones[1::-1], ones[:1] + ones[:1], ((2, (1, 1)), (1, (1, 1))),
                      ((1, (1, 1)), (1, (1, 1))), ((0, (1, 1)),), ((-2, (1, 1)),), ((4, (1, 1)),), ((12, (1, 1)),),
                      ((GREATEST + 39, (1, 1)),), ((GREATEST + 1, (1, 1)),), ((10 ** 13 + 37, (1, 1)),),
                      ((2, (0, 1)),), ((1, (0, 1)),), ((2, (2, 2)),), ((2, (1, 0)),), ((2, (1, -1)),), ((2, 1),),
                      ((2, (1.0, 1)),), ((2, (True, 1)),), ((2, (1, True)),), ((True, (1, 1)),), ((2.0, (1, 1)),),
                      (("2", (1, 1)),), ((2, [1, 1]),), ([2, (1, 1)],), ((2, (1, 1), 1),), ((2,),), (2, (1, 1)),
                      [(2, (1, 1))], ((2, None),), ((None, (1, 1)),), ((Odd(), (1, 1)),), ((2, Odd()),), (Odd(),),
                      {2: (1, 1)}, ((),), ((2, ()),), ((2, (1, 1)), None), ((2, (1, 1)), Odd()), ones[:3] + (None,)):
            self.assertIs(is_root_sum(thing), False)

    def test_anything(self):
        for thing in anything():
            self.assertIs(is_root_sum(thing), False)
            self.assertIs(is_root_sum((thing,)), False)
            self.assertIs(is_root_sum(((2, thing),)), False)
            self.assertIs(is_root_sum(((thing, (1, 2)), (3, (1, 2)))), type(thing) is int and thing == 1)


class Making(unittest.TestCase):

    def test_squares_are_drawn_out(self):
        for d in range(1, 3000):
            self.assertEqual(square_in(d), square_by_search(d))
        for d, s in ((9999, 3), (10 ** 4, 100), (GREAT_PRIME, 1), (SQUARED_PRIME, 999983), (2 * 707099 ** 2, 707099)):
            self.assertEqual(square_in(d), s)

    def test_written_ones(self):
        self.assertEqual(root_sum([]), ())
        self.assertEqual(root_sum([(8, (1, 2))]), ((2, (1, 1)),))
        self.assertEqual(root_sum([(4, (1, 2)), (9, (-1, 3))]), ())
        self.assertEqual(root_sum([(4, (1, 2)), (9, (1, 3))]), ((1, (2, 1)),))
        self.assertEqual(root_sum([(5, (1, 1)), (2, (1, 1)), (8, (-1, 2)), (3, (0, 1))]), ((5, (1, 1)),))
        self.assertEqual(root_sum([(10 ** 4, (1, 7))]), ((1, (100, 7)),))
        self.assertEqual(root_sum([(9973, (1, 7)), (1, (1, 1))]), ((1, (1, 1)), (9973, (1, 7))))

    def test_random_ones(self):
        random = source(401)
        refused = 0
        for turn in range(400):
            some = random.choice(((1, 2, 8, 18, 3, 12), (2, 3, 5, 7, 11), range(1, 10 ** 4 + 1)))
            terms = [(random.choice(some), some_fraction(random, random.choice((0, 1, 20))))
                     for term in range(random.randint(0, 6))]
            expected = added_up(terms)
            given = [(d, told(c)) for d, c in terms]
            kept = list(given)
            if len([d for d in expected if d > 1]) > 3:
                refused += 1
                for refusal in (TooGreat, CourtError):
                    with self.assertRaises(refusal):
                        root_sum(given)
            else:
                found = root_sum(given)
                self.assertEqual(found, told_sum(expected))
                self.assertIs(is_root_sum(found), True)
            self.assertEqual(given, kept)
        self.assertGreater(refused, 20)

    def test_three_and_four(self):
        three = [(2, (1, 1)), (3, (1, 1)), (5, (1, 1))]
        self.assertEqual(root_sum(three + [(1, (1, 1))]), ((1, (1, 1)),) + tuple(three))
        with self.assertRaises(TooGreat):
            root_sum(three + [(7, (1, 1))])
        with self.assertRaises(TooGreat):
            root_sum([(7, (1, 1))] + three + [(1, (1, 1))])
        self.assertEqual(root_sum(three + [(7, (1, 1)), (28, (-1, 2))]), tuple(three))
        self.assertEqual(root_sum(three + [(7, (0, 1))]), tuple(three))
        self.assertEqual(root_sum([(7, (1, 1))] + three + [(2, (-1, 1))]), tuple(three[1:]) + ((7, (1, 1)),))


class Deeds(unittest.TestCase):

    def check(self, deed, terms, one, other):
        expected = added_up(terms)
        if len([d for d in expected if d > 1]) > 3 or max(expected, default=1) > GREATEST:
            for refusal in (TooGreat, CourtError):
                with self.assertRaises(refusal):
                    deed(one, other)
            return 1
        found = deed(one, other)
        self.assertEqual(found, told_sum(expected))
        self.assertIs(is_root_sum(found), True)
        return 0

    def test_random_ones(self):
        refused = [0, 0, 0]
        some = some_root_sums(402, 300, (2, 3, 5, 6, 10, 15, 30))
        for one, other in zip(some, some[1:]):
            left, right = [[(d, meant(c)) for d, c in thing] for thing in (one, other)]
            refused[0] += self.check(s_plus, left + right, one, other)
            refused[1] += self.check(s_minus, left + [(d, -c) for d, c in right], one, other)
            products = [(d * e, b * c) for d, b in left for e, c in right]
            refused[2] += self.check(s_times, products, one, other)
        self.assertTrue(all(10 < many < 290 for many in refused), refused)

    def test_what_comes_to_nought(self):
        for one in some_root_sums(403, 40):
            self.assertEqual(s_minus(one, one), ())
            self.assertEqual(s_plus(one, s_times(((1, (-1, 1)),), one)), ())
            self.assertEqual(s_times(one, ()), ())
            self.assertEqual(s_times((), one), ())
            self.assertEqual(s_plus((), one), one)
            self.assertEqual(s_minus(one, ()), one)

    def test_four_roots(self):
        one, other = ((2, (1, 1)), (3, (1, 1))), ((5, (1, 1)), (7, (1, 1)))
        for deed in (s_plus, s_minus, s_times):
            with self.assertRaises(TooGreat):
                deed(one, other)
        self.assertEqual(s_plus(one + ((5, (1, 1)),), ((3, (-1, 1)), (7, (1, 1)))),
                         ((2, (1, 1)), (5, (1, 1)), (7, (1, 1))))
        self.assertEqual(s_times(one, ((2, (1, 1)), (3, (-1, 1)))), ((1, (-1, 1)),))
        # Of the six roots in the product of these all but three fall out.
        self.assertEqual(s_times(((2, (1, 1)), (3, (1, 1)), (5, (1, 1))), ((2, (1, 1)), (3, (1, 1)), (5, (1, 1)))),
                         ((1, (10, 1)), (6, (2, 1)), (10, (2, 1)), (15, (2, 1))))

    def test_great_roots(self):
        one, other = 999983, 999979
        root, further = ((one, (1, 1)),), ((other, (1, 1)),)
        self.assertEqual(s_times(root, further), ((one * other, (1, 1)),))
        self.assertEqual(s_times(root, root), ((1, (one, 1)),))
        beyond = ((1000003, (1, 1)), (1000039, (1, 1)))
        for refusal in (TooGreat, CourtError):
            with self.assertRaises(refusal):
                s_times(root, ((1000039, (1, 1)),))
        self.assertLess(GREATEST, one * 1000039)
        self.assertEqual(s_times(((GREAT_PRIME, (1, 1)),), ((GREAT_PRIME, (-1, 2)),)), ((1, (-GREAT_PRIME, 2)),))
        self.assertEqual(s_times(((2 * 999983, (1, 1)),), ((3 * 999983, (1, 1)),)), ((6, (999983, 1)),))
        # What falls out again doesn't count, however great it is.
        both, apart = s_plus(root, beyond), s_minus(root, ((1000039, (1, 1)),))
        self.assertEqual(s_times(s_plus(root, ((1000039, (1, 1)),)), apart), ((1, (one - 1000039, 1)),))
        with self.assertRaises(TooGreat):
            s_times(both, apart)

    def test_the_bound_itself(self):
        self.assertEqual(s_times(((2, (1, 1)),), ((499999999999, (1, 1)),)), ((999999999998, (1, 1)),))
        with self.assertRaises(TooGreat):
            s_times(((2, (1, 1)),), ((500000000003, (1, 1)),))


class Signs(unittest.TestCase):

    def samples(self):
        found = some_root_sums(404, 150) + [(), ((1, (1, HUGE)),), ((1, (-HUGE, 1)),), ((2, (-1, HUGE)),),
                                            ((GREAT_PRIME, (1, 1)),), ((GREAT_PRIME, (-1, HUGE)),)]
        # Convergents of the root of 2 on both sides of it, ever nearer.
        top, bottom = 1, 1
        for step in range(300):
            top, bottom = top + 2 * bottom, top + bottom
            if step % 12 < 2:
                found.append(((1, (-top, bottom)), (2, (1, 1))))
                found.append(((1, (top, bottom)), (2, (-1, 1))))
        for figures in (1, 5, 60, 390):
            scale = 10 ** figures
            for three in ((2, 3, 5), (9973, 9967, 9949), (2, 3, GREAT_PRIME)):
                with localcontext() as context:
                    context.prec = 900
                    wanted = int((Decimal(three[0]).sqrt() + Decimal(three[1]).sqrt()) / Decimal(three[2]).sqrt() * scale)
                for away in (0, 1):
                    sums = {three[0]: Fraction(1), three[1]: Fraction(1), three[2]: -Fraction(wanted + away, scale)}
                    found.append(told_sum(sums))
                    found.append(told_sum({d: -c for d, c in sums.items()}))
        return found

    def test_told_ones(self):
        seen = set()
        for one in self.samples():
            self.assertIs(is_root_sum(one), True)
            expected = sign_of(one)
            self.assertEqual(s_sign(one), expected)
            paper = s_paper(one)
            self.assertIs(type(paper), tuple)
            self.check(one, paper)
            seen.add(expected)
        self.assertEqual(seen, {-1, 0, 1})

    def check(self, one, paper):
        """That a paper is so, by Python's fractions, and let by."""
        found, pairs = paper
        self.assertEqual(found, sign_of(one))
        roots = [d for d, c in one if d > 1]
        self.assertEqual(len(pairs), len(roots))
        bounds = {1: (Fraction(1), Fraction(1))}
        for d, (lo, hi) in zip(roots, pairs):
            bounds[d] = (meant(lo), meant(hi))
            self.assertTrue(0 <= meant(lo) and meant(lo) ** 2 <= d <= meant(hi) ** 2)
        least = sum(min(meant(c) * end for end in bounds[d]) for d, c in one)
        greatest = sum(max(meant(c) * end for end in bounds[d]) for d, c in one)
        self.assertEqual((least > 0) - (greatest < 0), found)
        self.assertIs(s_right(one, paper), True)

    def test_of_others(self):
        one = ((1, (-1, 1)), (2, (1, 1)))
        for pair in (((7, 5), (3, 2)), ((7, 5), (10 ** 60, 1)), ((141421356, 10 ** 8), (141421357, 10 ** 8))):
            pair = (told(meant(pair[0])), told(meant(pair[1])))
            self.check(one, (1, (pair,)))
        one = ((2, (-1, 1)), (3, (-2, 1)), (5, (1, 7)))
        for pairs in ((((1, 1), (9, 1)), ((1, 1), (9, 1)), ((0, 1), (7, 1))),
                      (((7, 5), (9, 1)), ((17, 10), (2, 1)), ((0, 1), (3, 1)))):
            self.check(one, (-1, pairs))
        self.check(((1, (5, 3)),), (1, ()))
        self.check(((1, (-5, 3)),), (-1, ()))
        self.check((), (0, ()))
        self.check(((2, (1, 1)),), (1, (((1, 1), (2, 1)),)))

    def test_bounds_that_show_nothing(self):
        one = ((1, (-1, 1)), (2, (1, 1)))
        for pair in (((1, 1), (3, 2)), ((0, 1), (2, 1)), ((1, 2), (3, 2))):
            for found in (1, 0, -1):
                self.assertIs(s_right(one, (found, (pair,))), False)
        one = ((2, (1, 1)),)
        self.assertIs(s_right(one, (1, (((0, 1), (2, 1)),))), False)
        self.assertIs(s_right(((2, (-1, 1)),), (-1, (((0, 1), (2, 1)),))), False)

    def test_with_one_thing_not_so(self):
        one = ((1, (-1, 1)), (2, (1, 1)), (3, (-1, 9)))
        good = (((7, 5), (3, 2)), ((17, 10), (2, 1)))
        self.check(one, (1, good))
        for bad in (((3, 2), (3, 2)), ((142, 100), (3, 2)), ((71, 50), (3, 2)), ((7, 5), (7, 5)), ((7, 5), (141, 100)),
                    ((-7, 5), (3, 2)), ((7, 5), (-3, 2)), ((-1, 1), (-3, 2)), ((3, 2), (7, 5)), ((14, 10), (3, 2)),
                    ((7, 5), (6, 4)), [(7, 5), (3, 2)], ((7, 5),), ((7, 5), (3, 2), (3, 2)), ((7, 5), 2), ((7, 5), None),
                    ([7, 5], (3, 2)), ((7, 5), (True, 1)), ((7, 5), (2, True)), ((7.0, 5), (3, 2)), None, (), Odd(),
                    (Odd(), Odd()), ((7, 5), (3, 0))):
            self.assertIs(s_right(one, (1, (bad, good[1]))), False)
        for found in (-1, 0, 2, True, False, 1.0, "1", None, (1,), Odd(), 10 ** 60):
            self.assertIs(s_right(one, (found, good)), False)
        for pairs in (list(good), good[:1], good[1:], good[::-1], good + good[:1], (((1, 1), (1, 1)),) + good, (), None,
                      dict(enumerate(good)), Odd(), (good,)):
            self.assertIs(s_right(one, (1, pairs)), False)
        for paper in ([1, good], (1,), (good,), (1, good, ()), (1,) + good, (good, 1), {0: 1, 1: good}):
            self.assertIs(s_right(one, paper), False)

    def test_ends_that_the_sum_does_not_need(self):
        one = ((2, (1, 1)),)
        self.check(one, (1, (((1, 10 ** 60), (10 ** 60, 1)),)))
        for hi in ((7, 5), (-3, 2), (-10 ** 60, 1), (0, 1)):
            self.assertIs(s_right(one, (1, (((1, 1), hi),))), False)
        one = ((1, (5, 1)), (2, (-1, 1)))
        self.check(one, (1, (((0, 1), (3, 2)),)))
        for lo in ((3, 2), (-1, 1), (-1, 10 ** 60)):
            self.assertIs(s_right(one, (1, ((lo, (3, 2)),))), False)

    def test_nought(self):
        self.assertIs(s_right((), (0, ())), True)
        for paper in ((1, ()), (-1, ()), (False, ()), (0.0, ()), (0, []), (0, (((1, 1), (2, 1)),)), (0,), (0, (), ())):
            self.assertIs(s_right((), paper), False)
        for one in (((1, (1, 1)),), ((2, (1, 1)),)):
            self.assertIs(s_right(one, (0, ())), False)
            self.assertIs(s_right(one, (0, (((1, 1), (2, 1)),))), False)
        self.assertIs(s_right(((1, (1, 1)),), (True, ())), False)
        self.assertIs(s_right(((1, (1, 1)),), (-1, ())), False)
        self.assertIs(s_right(((1, (1, 1)),), (1, (((1, 1), (1, 1)),))), False)

    def test_anything(self):
        for one in ((), ((1, (1, 1)),), ((1, (-1, 1)), (2, (1, 1)))):
            found, pairs = s_paper(one)
            for thing in anything():
                self.assertIs(s_right(one, thing), False)
                self.assertIs(s_right(one, (found, thing)), False)
                self.assertIs(s_right(one, (found, (thing,))), False)
                self.assertIs(s_right(one, (thing, pairs)), type(thing) is int and thing == found)
            for thing in anything():
                self.assertIs(s_right(((2, (1, 1)),), (1, ((thing, (2, 1)),))), False)
                self.assertIs(s_right(((2, (1, 1)),), (1, (((1, 1), thing),))), False)


class Numbers(unittest.TestCase):

    def check(self, one):
        found = s_number(one)
        self.assertIs(is_number(found), True)
        with localcontext() as context:
            context.prec = 200
            value = near(one)
            for figures in (2, 60):
                scale = 10 ** figures
                below = Fraction(int(value * scale) - 1, scale)
                self.assertEqual(beside(found, told(below)), 1)
                self.assertEqual(beside(found, told(below + Fraction(3, scale))), -1)
        return found

    def test_of_plain_ones(self):
        self.assertEqual(s_number(()), number((0, 1)))
        self.assertEqual(s_number(((1, (-7, 3)),)), number((-7, 3)))
        self.assertEqual(s_number(((1, (HUGE, 2)),)), number((HUGE, 2)))

    def test_of_one_root(self):
        for d in (2, 3, 5, 6, 30, 9973, GREAT_PRIME):
            for c in (Fraction(1), Fraction(-1), Fraction(3, 2), Fraction(-2, 15), Fraction(7, 6), Fraction(1, d)):
                found = self.check(((d, told(c)),))
                self.assertEqual(found[0], made_plain((-c * c * d, 0, 1)))
        self.assertEqual(s_number(((2, (1, 1)),))[0], (-2, 0, 1))
        self.assertEqual(s_number(((2, (-3, 2)),))[0], (-9, 0, 2))
        self.assertEqual(s_number(((6, (1, 6)),))[0], (-1, 0, 6))

    def test_of_more(self):
        self.assertEqual(s_number(((1, (1, 2)), (5, (1, 2))))[0], (-1, -1, 1))
        self.assertEqual(s_number(((2, (1, 1)), (3, (1, 1))))[0], (1, 0, -10, 0, 1))
        self.assertEqual(s_number(((2, (1, 1)), (3, (1, 1)), (5, (1, 1))))[0], (576, 0, -960, 0, 352, 0, -40, 0, 1))
        self.assertEqual(len(s_number(((1, (1, 3)), (2, (1, 1)), (3, (-1, 1)), (5, (1, 7))))[0]), 9)
        # Here a root is the product of two others: the sums of the roots are fewer than eight.
        self.check(((2, (1, 1)), (3, (1, 1)), (6, (1, 1))))
        for one in some_root_sums(405, 60):
            self.check(one)

    def test_the_sums_go_from_the_first_pair_on(self):
        for one in some_root_sums(406, 30):
            if len(one) > 1:
                found = s_number(one[:1])
                for term in one[1:]:
                    found = sum_of(found, s_number((term,)))
                self.assertEqual(s_number(one)[0], found[0])


if __name__ == "__main__":
    unittest.main()
