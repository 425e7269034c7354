import unittest
from fractions import Fraction

from rootcourt.cuts import roots_of
from rootcourt.numbers import beside, is_number, number
from rootcourt.order import order, order_paper, order_right, sign_of, sign_paper, sign_right
from rootcourt.polys import p_times
from tests.helper import (ROOT_TWO, Odd, anything, divided, meant, multiplied, order_by_rank, point, roots_below,
                          some_fraction, some_poly, source, squeezed, stretch, told, turns, value_at)
from tests.test_changes import seen_within
from tests.test_cuts import near_pair

GREAT = 10 ** 80 + 7
HUGE = 10 ** 2000
WORDS = {-1: "less", 0: "same", 1: "more"}
ROOT_EIGHT_HALVED = stretch((-2, 0, 1), Fraction(7, 5), Fraction(3, 2))
WITH_MORE = multiplied((-2, 0, 1), (-3, 0, 1), (-1, 1))


def the_same_numbers():
    """Pairs that tell one number in unlike ways."""
    return [
        (ROOT_TWO, ROOT_TWO),
        (ROOT_TWO, ROOT_EIGHT_HALVED),
        (ROOT_TWO, stretch((-2, 0, 1), 0, Fraction(3, 2))),
        (ROOT_TWO, stretch((-4, 0, 0, 0, 1), Fraction(5, 4), 9)),
        (ROOT_TWO, stretch(WITH_MORE, Fraction(6, 5), Fraction(8, 5))),
        (stretch(multiplied((-2, 0, 1), (-5, 1)), 1, 2), stretch(multiplied((-2, 0, 1), (-7, 0, 1)), 0, Fraction(5, 2))),
        (point(Fraction(1, 2)), point(Fraction(1, 2))),
        (point(0), point(0)),
        (point(Fraction(-1, 2)), stretch((1, 2), -1, 1)),
        (point(1), stretch(WITH_MORE, Fraction(1, 2), Fraction(4, 3))),
        (stretch((-1, 2), 0, 1), stretch((-1, 2), Fraction(1, 3), 7)),
        (stretch((-1, 2), 0, 1), stretch((-1, 0, 4), Fraction(1, 3), 7)),
        (point(GREAT), stretch((-GREAT * GREAT, 0, 1), 1, 2 * GREAT)),
        (stretch((-HUGE, 0, 1), 1, HUGE), point(10 ** 1000)),
    ]


def unlike_numbers():
    """Pairs (less, more)."""
    near = roots_of(near_pair(9, 10 ** 30))
    nearer = roots_of(near_pair(9, 10 ** 30 + 1))
    pairs = [
        (point(1), point(2)),
        (point(Fraction(GREAT, GREAT + 1)), point(Fraction(GREAT + 1, GREAT + 2))),
        (point(1), ROOT_TWO),
        (point(Fraction(7, 5)), ROOT_TWO),
        (ROOT_TWO, point(Fraction(3, 2))),
        (ROOT_TWO, point(2)),
        (ROOT_TWO, point(3)),
        (stretch((-2, 0, 1), -2, -1), ROOT_TWO),
        (stretch((-2, 0, 1), -2, 0), stretch((-2, 0, 1), 0, 2)),
        (ROOT_TWO, stretch((-3, 0, 1), 1, 2)),
        (ROOT_TWO, stretch((-3, 0, 1), 0, 9)),
        (stretch((-2, 0, 1), 0, 9), stretch((-3, 0, 1), Fraction(3, 2), 2)),
        (ROOT_TWO, stretch(WITH_MORE, Fraction(3, 2), 2)),
        (ROOT_TWO, stretch(multiplied((-2, 0, 1), (-3, 0, 1)), Fraction(29, 20), 3)),
        (point(1), stretch((-3, 0, 1), 1, 2)),
        (ROOT_TWO, stretch((-2 * GREAT - 1, 0, GREAT), 1, 2)),
        (stretch((-2, 0, 1), 1, 2), stretch((-2 * HUGE - 1, 0, HUGE), 1, 2)),
        (stretch((-HUGE, 0, 1), 1, HUGE), point(10 ** 1000 + 1)),
        (near[1], near[2]),
        (stretch((-1, 3), 0, 1), stretch((-1, 2), 0, 1)),
        (stretch((-1, 2), 0, 1), stretch((-1, 0, 2), 0, 1)),
    ]
    # Two roots lie close by 1 / G on both sides, the third one grows with G.
    return pairs + [(near[0], near[1]), (nearer[0], nearer[1]), (nearer[0], near[0]), (nearer[1], near[0]),
                    (nearer[1], near[1]), (near[2], nearer[2])]


def left_by(p, d):
    """The whole polynomial whose product with d is p."""
    return tuple(int(weight) for weight in divided(p, d)[0])


def spoiled_words(paper):
    """A right paper with its word alone, or its shape alone, made another one."""
    found = [list(paper), paper[:-1], paper[1:], paper + ((1, 1),), paper + ((),), (paper,), paper + paper, (), {}]
    for word in ("less", "more", "same", "nought", "Less", "", " same", None, True, False, 1, 0, -1, Odd(), b"same",
                 ["same"], ("same",)):
        if not isinstance(word, str) or word != paper[0]:
            found.append((word,) + paper[1:])
    return found


class Order(unittest.TestCase):

    def test_the_same(self):
        for a, b in the_same_numbers():
            self.assertTrue(is_number(a) and is_number(b))
            self.assertEqual((order(a, b), order(b, a)), (0, 0))

    def test_less_and_more(self):
        for a, b in unlike_numbers():
            self.assertTrue(is_number(a) and is_number(b), (a, b))
            self.assertEqual((order(a, b), order(b, a)), (-1, 1))

    def test_roots_in_their_order(self):
        for p in (WITH_MORE, near_pair(7, 10 ** 20), multiplied((-1, 3), (0, 1), (-1, 0, 0, 5)), (1, -3, 0, 1)):
            roots = roots_of(p)
            for i, a in enumerate(roots):
                for j, b in enumerate(roots):
                    self.assertEqual(order(a, b), (i > j) - (i < j))

    def test_against_ranks(self):
        random = source(70)
        seen = {-1: 0, 0: 0, 1: 0}
        for turn in range(60):
            common = some_poly(random, 2, 1)
            one = roots_of(multiplied(some_poly(random, 3, 1), common))
            other = roots_of(multiplied(some_poly(random, 3, 1), common)) + [point(some_fraction(random, 1))]
            for a in one:
                for b in other:
                    expected = order_by_rank(a, b)
                    self.assertEqual((order(a, b), order(b, a)), (expected, -expected))
                    self.check_paper(a, b, expected)
                    seen[expected] += 1
        self.assertTrue(min(seen.values()) > 15, seen)

    def check_paper(self, a, b, expected):
        paper = order_paper(a, b)
        self.assertIs(type(paper), tuple)
        self.assertEqual(paper[0], WORDS[expected])
        self.assertEqual(len(paper), 4 if expected == 0 else 2)
        self.assertIs(order_right(a, b, paper), True)
        if expected != 0:
            r = paper[1]
            self.assertEqual(told(meant(r)), r)
            left, right = (a, b) if expected < 0 else (b, a)
            self.assertEqual((order_by_rank(left, number(r)), order_by_rank(number(r), right)), (-1, -1))
        else:
            self.assertEqual(multiplied(paper[1], paper[2]), a[0])
            self.assertEqual(multiplied(paper[1], paper[3]), b[0])

    def test_papers_told_are_right(self):
        for a, b in the_same_numbers():
            self.check_paper(a, b, 0)
            self.check_paper(b, a, 0)
        for a, b in unlike_numbers():
            for one, other, word in ((a, b, "less"), (b, a, "more")):
                paper = order_paper(one, other)
                self.assertEqual((paper[0], len(paper)), (word, 2))
                self.assertIs(order_right(one, other, paper), True)
                self.assertEqual((beside(a, paper[1]), beside(b, paper[1])), (-1, 1))

    def test_a_root_that_is_the_middle_of_its_stretch(self):
        # The straight line between the values at the ends leads far from the root.
        nought = stretch(multiplied((0, 1), (2, 1), (3, 1), (4, 1), (5, 1)), -1, 1)
        for r, expected in ((Fraction(1, 10 ** 9), -1), (Fraction(-1, 10 ** 9), 1), (Fraction(0), 0)):
            self.assertEqual(order(nought, point(r)), expected)
            self.assertEqual(order(nought, stretch((-r.numerator, r.denominator), -1, 1)), expected)
            self.assertEqual(sign_of((-r.numerator, r.denominator), nought), expected)

    def test_the_greatest_sizes_promised(self):
        random = source(71)
        weights = tuple(random.randint(-10 ** 399, 10 ** 399) for place in range(19))
        one = (-10 ** 399,) + weights + (10 ** 399 + 1,)
        other = (1 - 10 ** 399,) + one[1:]
        self.assertTrue(len(roots_of(one)) > 1 and len(roots_of(other)) > 1)
        for a in roots_of(one):
            for b in roots_of(other):
                paper = order_paper(a, b)
                self.assertIs(order_right(a, b, paper), True)
                self.assertNotEqual(paper[0], "same")

    def test_kinds(self):
        for a, b in the_same_numbers()[:4] + unlike_numbers()[:4]:
            self.assertIs(type(order(a, b)), int)


class OrderRight(unittest.TestCase):

    three = stretch((-3, 0, 1), 1, 2)

    def test_fractions_of_others(self):
        for r in (Fraction(3, 2), Fraction(17, 10), Fraction(1415, 1000)):
            self.assertIs(order_right(ROOT_TWO, self.three, ("less", told(r))), True)
            self.assertIs(order_right(self.three, ROOT_TWO, ("more", told(r))), True)
        self.assertIs(order_right(point(1), point(2), ("less", (3, 2))), True)

    def test_the_words_exchanged(self):
        self.assertIs(order_right(ROOT_TWO, self.three, ("more", (3, 2))), False)
        self.assertIs(order_right(self.three, ROOT_TWO, ("less", (3, 2))), False)

    def test_fractions_that_do_not_lie_between(self):
        for r in ((0, 1), (1, 1), (7, 5), (2, 1), (9, 5)):
            for word in ("less", "more"):
                self.assertIs(order_right(ROOT_TWO, self.three, (word, r)), False)

    def test_a_fraction_equal_to_one_of_them(self):
        half = stretch((-1, 2), 0, 1)
        for a, b, r in ((point(1), point(2), (1, 1)), (point(1), point(2), (2, 1)), (point(1), ROOT_TWO, (1, 1)),
                        (half, point(3), (1, 2)), (half, ROOT_TWO, (1, 2)), (half, half, (1, 2))):
            self.assertIs(order_right(a, b, ("less", r)), False)
            self.assertIs(order_right(b, a, ("more", r)), False)

    def test_what_is_no_fraction(self):
        for r in (1.5, Fraction(3, 2), (6, 4), [3, 2], (3, True), (3, 2, 1), (3,), 3, None, "3/2", Odd(), (Odd(), 2), (3, 0)):
            self.assertIs(order_right(ROOT_TWO, self.three, ("less", r)), False)
        self.assertIs(order_right(point(0), point(2), ("less", (True, 1))), False)

    def test_sameness_of_others(self):
        for a, b in the_same_numbers():
            paper = order_paper(a, b)
            word, d, u, v = paper
            turned = tuple(tuple(-weight for weight in part) for part in (d, u, v))
            self.assertIs(order_right(a, b, (word,) + turned), True)
        more = stretch(WITH_MORE, Fraction(6, 5), Fraction(8, 5))
        self.assertIs(order_right(more, more, ("same", (-2, 0, 1), multiplied((-3, 0, 1), (-1, 1)),
                                               multiplied((-3, 0, 1), (-1, 1)))), True)
        self.assertIs(order_right(more, more, ("same", WITH_MORE, (1,), (1,))), True)

    def test_a_part_without_the_sign(self):
        more = stretch(WITH_MORE, Fraction(6, 5), Fraction(8, 5))
        for d in ((-3, 0, 1), (-1, 1), (1,), multiplied((-3, 0, 1), (-1, 1))):
            rest = left_by(WITH_MORE, d)
            self.assertIs(order_right(more, more, ("same", d, rest, rest)), False)
        self.assertIs(order_right(ROOT_TWO, self.three, ("same", (1,), (-2, 0, 1), (-3, 0, 1))), False)

    def test_stretches_that_do_not_overlap(self):
        a, b = stretch(WITH_MORE, Fraction(6, 5), Fraction(3, 2)), stretch(WITH_MORE, Fraction(3, 2), 2)
        self.assertIs(order_right(a, b, ("same", WITH_MORE, (1,), (1,))), False)
        b = stretch(WITH_MORE, Fraction(8, 5), 2)
        self.assertIs(order_right(a, b, ("same", WITH_MORE, (1,), (1,))), False)
        self.assertIs(order_right(b, a, ("same", WITH_MORE, (1,), (1,))), False)
        # The greater lo and the lesser hi are no stretch, though the signs there are unlike.
        four = multiplied((-1, 1), (-2, 1), (-3, 1), (-4, 1))
        left, right = stretch(four, Fraction(1, 2), Fraction(3, 2)), stretch(four, Fraction(5, 2), Fraction(7, 2))
        self.assertLess(value_at(four, Fraction(5, 2)) * value_at(four, Fraction(3, 2)), 0)
        self.assertIs(order_right(left, right, ("same", four, (1,), (1,))), False)
        self.assertIs(order_right(right, left, ("same", four, (1,), (1,))), False)

    def test_points_with_stretches(self):
        whole = multiplied((-1, 1), (-3, 1))
        wide = stretch(whole, 0, 2)
        self.assertIs(order_right(point(1), wide, ("same", (-1, 1), (1,), (-3, 1))), True)
        self.assertIs(order_right(wide, point(1), ("same", (-1, 1), (-3, 1), (1,))), True)
        self.assertIs(order_right(point(3), wide, ("same", (-3, 1), (1,), (-1, 1))), False)
        self.assertIs(order_right(wide, point(3), ("same", (-3, 1), (-1, 1), (1,))), False)
        right = stretch(whole, 2, 4)
        self.assertIs(order_right(point(1), right, ("same", (-1, 1), (1,), (-3, 1))), False)
        self.assertIs(order_right(right, point(1), ("same", (-1, 1), (-3, 1), (1,))), False)
        self.assertIs(order_right(point(1), wide, ("same", (1,), (-1, 1), whole)), False)
        self.assertIs(order_right(point(1), point(1), ("same", (-1, 1), (1,), (1,))), True)
        self.assertIs(order_right(point(1), point(1), ("same", (1,), (-1, 1), (-1, 1))), False)
        self.assertIs(order_right(point(1), point(2), ("same", (1,), (-1, 1), (-2, 1))), False)

    def test_another_product(self):
        for a, b in the_same_numbers():
            word, d, u, v = order_paper(a, b)
            for wrong in ((), (1, 1), p_times(u, (2,)), u + (1,), tuple(-weight for weight in u)):
                if wrong != u:
                    self.assertIs(order_right(a, b, (word, d, wrong, v)), False)
            for wrong in ((), (1, 1), p_times(v, (2,)), v + (1,), tuple(-weight for weight in v)):
                if wrong != v:
                    self.assertIs(order_right(a, b, (word, d, u, wrong)), False)
            for wrong in ((), d + (1,), p_times(d, (2,)), p_times(d, (1, 1))):
                self.assertIs(order_right(a, b, (word, wrong, u, v)), False)

    def test_what_is_no_polynomial(self):
        good = ("same", (-2, 0, 1), (1,), (1,))
        self.assertIs(order_right(ROOT_TWO, ROOT_TWO, good), True)
        for place in (1, 2, 3):
            for thing in anything() + [(1, 0), (True,), (1.0,), [1], [-2, 0, 1], (-2, 0, True), (-2, False, 1)]:
                paper = good[:place] + (thing,) + good[place + 1:]
                self.assertIs(order_right(ROOT_TWO, ROOT_TWO, paper), False)

    def test_other_words_and_shapes(self):
        for a, b in the_same_numbers()[:6] + unlike_numbers()[:6]:
            for one, other in ((a, b), (b, a)):
                for paper in spoiled_words(order_paper(one, other)):
                    self.assertIs(order_right(one, other, paper), False)

    def test_anything_at_all(self):
        for thing in anything() + [("less", None), ("same",) * 4, (Odd(), (1, 1)), ("less", Odd())]:
            for a, b in ((ROOT_TWO, ROOT_TWO), (point(1), ROOT_TWO), (point(1), point(1))):
                self.assertIs(order_right(a, b, thing), False)


class SignOf(unittest.TestCase):

    def samples(self):
        near = roots_of(near_pair(9, 10 ** 30))
        nearer = near_pair(9, 10 ** 30 + 1)
        return [
            ((-1, 1), ROOT_TWO, 1), ((-2, 1), ROOT_TWO, -1), ((-7, 5), ROOT_TWO, 1), ((-3, 2), ROOT_TWO, -1),
            ((-2, 0, 1), ROOT_TWO, 0), ((2, 0, -1), ROOT_TWO, 0), ((0, -4, 0, 2), ROOT_TWO, 0),
            ((-4, 0, 0, 0, 1), ROOT_TWO, 0), ((-3, 0, 1), ROOT_TWO, -1), ((3, 0, -1), ROOT_TWO, 1),
            ((), ROOT_TWO, 0), ((5,), ROOT_TWO, 1), ((-5,), ROOT_TWO, -1), ((1, 0, 1), ROOT_TWO, 1),
            ((), point(3), 0), ((5,), point(3), 1), ((-5,), point(0), -1), ((-3, 1), point(3), 0),
            ((-3, 1), point(4), 1), ((-3, 1), point(Fraction(5, 2)), -1), ((-9, 0, 1), point(-3), 0),
            ((-18, 0, 2), point(-3), 0), ((0, 7), point(0), 0),
            ((-1, 2), stretch((-1, 2), 0, 1), 0), ((-1, 3), stretch((-1, 2), 0, 1), 1),
            ((1, -2), stretch((-1, 0, 4), 0, 1), 0), ((-1, 0, 4), stretch((-1, 2), 0, 7), 0),
            ((-2 * GREAT - 1, 0, GREAT), ROOT_TWO, -1), ((-2 * GREAT + 1, 0, GREAT), ROOT_TWO, 1),
            (multiplied((-2 * GREAT - 1, 0, GREAT), (-2 * GREAT + 1, 0, GREAT)), ROOT_TWO, -1),
            ((-2 * HUGE + 1, 0, HUGE), ROOT_TWO, 1), ((1, -2, 1), stretch((-2, 0, 1), 0, 9), 1),
            ((-10 ** 1000, 1), stretch((-HUGE, 0, 1), 1, HUGE), 0),
            ((-10 ** 1000 - 1, 1), stretch((-HUGE, 0, 1), 1, HUGE), -1),
            (WITH_MORE, ROOT_TWO, 0), (WITH_MORE, stretch((-3, 0, 1), 1, 2), 0), (WITH_MORE, point(2), 1),
            # 0 at both ends of the stretch, but not at the number.
            ((2, -3, 1), ROOT_TWO, -1),
        ] + [(nearer, n, self.by_halving(nearer, n)) for n in near]

    def by_halving(self, s, n):
        lo, hi = squeezed(n, Fraction(1, 10 ** 160))
        if roots_below(s, hi) != roots_below(s, lo):
            raise ValueError("not near enough")
        here = value_at(s, lo)
        return (here > 0) - (here < 0)

    def test_signs(self):
        for s, n, expected in self.samples():
            self.assertTrue(is_number(n))
            self.assertEqual(sign_of(s, n), expected)
            self.assertIs(type(sign_of(s, n)), int)

    def test_papers_told_are_right(self):
        for s, n, expected in self.samples():
            self.check_paper(s, n, expected)

    def check_paper(self, s, n, expected):
        paper = sign_paper(s, n)
        self.assertIs(type(paper), tuple)
        self.assertIs(sign_right(s, n, paper), True)
        if expected == 0:
            word, d, u, v = paper
            self.assertEqual(word, "nought")
            self.assertEqual((multiplied(d, u), multiplied(d, v)), (s, n[0]))
            return
        sign, lo, hi = paper
        self.assertEqual((sign, type(sign)), (expected, int))
        self.assertEqual((told(meant(lo)), told(meant(hi))), (lo, hi))
        if lo != hi:
            self.assertEqual((beside(n, lo), beside(n, hi)), (1, -1))
            self.assertEqual(turns(seen_within(s, meant(lo), meant(hi))), 0)
        amid = value_at(s, (meant(lo) + meant(hi)) / 2)
        self.assertEqual((amid > 0) - (amid < 0), expected)

    def test_against_halving(self):
        random = source(72)
        seen = {-1: 0, 0: 0, 1: 0}
        for turn in range(60):
            common = some_poly(random, 2, 1)
            s = multiplied(some_poly(random, 3, 1), common)
            for n in roots_of(multiplied(some_poly(random, 2, 1), common)):
                around = squeezed(n, Fraction(1, 10 ** 12))
                if around[0] == around[1]:
                    here = value_at(s, around[0])
                elif len(s) > 1 and roots_below(s, around[1]) != roots_below(s, around[0]):
                    # So near, with weights so small, it can but be the same root.
                    here = 0
                else:
                    here = value_at(s, around[0])
                expected = (here > 0) - (here < 0)
                self.assertEqual(sign_of(s, n), expected)
                self.check_paper(s, n, expected)
                seen[expected] += 1
        self.assertTrue(min(seen.values()) > 15, seen)


class SignRight(unittest.TestCase):

    def test_stretches_of_others(self):
        self.assertIs(sign_right((-1, 1), ROOT_TWO, (1, (1, 1), (2, 1))), True)
        self.assertIs(sign_right((-1, 1), ROOT_TWO, (1, (7, 5), (9, 1))), True)
        self.assertIs(sign_right((-2, 1), ROOT_TWO, (-1, (0, 1), (2, 1))), True)
        self.assertIs(sign_right((5,), ROOT_TWO, (1, (-100, 1), (100, 1))), True)
        self.assertIs(sign_right((1, 1), point(3), (1, (2, 1), (4, 1))), True)
        self.assertIs(sign_right((1, 1), point(3), (1, (3, 1), (3, 1))), True)
        self.assertIs(sign_right((-1, 3), stretch((-1, 2), 0, 1), (1, (1, 2), (1, 2))), True)

    def test_the_other_sign(self):
        self.assertIs(sign_right((-1, 1), ROOT_TWO, (-1, (1, 1), (2, 1))), False)
        self.assertIs(sign_right((-2, 1), ROOT_TWO, (1, (0, 1), (2, 1))), False)
        self.assertIs(sign_right((1, 1), point(3), (-1, (3, 1), (3, 1))), False)
        self.assertIs(sign_right((1, 1), point(3), (-1, (2, 1), (4, 1))), False)

    def test_truths_and_other_things_for_the_sign(self):
        for sign in (True, False, 0, 2, -2, 1.0, "1", None, (1,), Odd(), "nought", "more"):
            self.assertIs(sign_right((-1, 1), ROOT_TWO, (sign, (1, 1), (2, 1))), False)
            self.assertIs(sign_right((1, 1), point(3), (sign, (3, 1), (3, 1))), False)
        self.assertIs(sign_right((), ROOT_TWO, (0, (1, 1), (2, 1))), False)
        self.assertIs(sign_right((-3, 1), point(3), (0, (3, 1), (3, 1))), False)

    def test_stretches_beside_the_number(self):
        for lo, hi in (((3, 2), (2, 1)), ((5, 4), (7, 5)), ((3, 1), (4, 1)), ((2, 1), (1, 1)), ((3, 2), (7, 5))):
            self.assertIs(sign_right((-1, 1), ROOT_TWO, (1, lo, hi)), False)
        for lo, hi in (((3, 1), (4, 1)), ((2, 1), (3, 1)), ((4, 1), (2, 1))):
            self.assertIs(sign_right((1, 1), point(3), (1, lo, hi)), False)
            self.assertIs(sign_right((1, 1), stretch((-3, 1), 0, 9), (1, lo, hi)), False)

    def test_one_fraction_that_is_not_the_number(self):
        for r in ((1, 1), (7, 5), (3, 2), (2, 1)):
            self.assertIs(sign_right((1, 1), ROOT_TWO, (1, r, r)), False)
        self.assertIs(sign_right((1, 1), point(3), (1, (2, 1), (2, 1))), False)
        self.assertIs(sign_right((-1, 3), stretch((-1, 2), 0, 1), (1, (2, 3), (2, 3))), False)

    def test_a_stretch_in_which_the_sign_changes(self):
        self.assertIs(sign_right((-7, 5), ROOT_TWO, (1, (1, 1), (2, 1))), False)
        self.assertIs(sign_right((-7, 5), ROOT_TWO, (1, (7, 5), (2, 1))), True)
        # Of the same sign at both ends and amid them, yet with two changes.
        self.assertIs(sign_right((2, -3, 1), stretch((-5, 0, 1), 1, 3), (1, (0, 1), (9, 1))), False)
        self.assertIs(sign_right((251, -1000, 1000), stretch((-1, 2), 0, 1), (1, (0, 1), (1, 1))), False)
        self.assertIs(sign_right((251, -1000, 1000), stretch((-1, 2), 0, 1), (1, (49, 100), (51, 100))), True)

    def test_nought_has_no_other_sign(self):
        for sign in (1, -1):
            self.assertIs(sign_right((), ROOT_TWO, (sign, (1, 1), (2, 1))), False)
            self.assertIs(sign_right((), point(3), (sign, (3, 1), (3, 1))), False)
            self.assertIs(sign_right((-3, 1), point(3), (sign, (3, 1), (3, 1))), False)
            self.assertIs(sign_right((-2, 0, 1), ROOT_TWO, (sign, (1, 1), (2, 1))), False)

    def test_noughts_of_others(self):
        more = stretch(WITH_MORE, Fraction(6, 5), Fraction(8, 5))
        rest = multiplied((-3, 0, 1), (-1, 1))
        self.assertIs(sign_right((0, -4, 0, 2), more, ("nought", (-2, 0, 1), (0, 2), rest)), True)
        self.assertIs(sign_right((0, -4, 0, 2), more, ("nought", (2, 0, -1), (0, -2), tuple(-w for w in rest))), True)
        self.assertIs(sign_right((), ROOT_TWO, ("nought", (-2, 0, 1), (), (1,))), True)
        self.assertIs(sign_right((), point(3), ("nought", (-3, 1), (), (1,))), True)
        self.assertIs(sign_right((-9, 0, 1), point(3), ("nought", (-3, 1), (3, 1), (1,))), True)

    def test_noughts_with_one_thing_not_so(self):
        more = stretch(WITH_MORE, Fraction(6, 5), Fraction(8, 5))
        rest = multiplied((-3, 0, 1), (-1, 1))
        for d, u, v in (((-2, 0, 1), (0, 1), rest), ((-2, 0, 1), (0, 2), (-3, 0, 1)), ((-2, 0, 1), (), rest),
                        ((1,), (0, -4, 0, 2), WITH_MORE), ((), (), ()), ((2, 0, -1), (0, 2), rest),
                        ((-2, 0, 1), [0, 2], rest), ((-2, 0, True), (0, 2), rest), ((-2, 0, 1), (0, 2, 0), rest)):
            self.assertIs(sign_right((0, -4, 0, 2), more, ("nought", d, u, v)), False)
        # A common part that is 0 elsewhere alone.
        self.assertIs(sign_right((-3, 0, 1), more, ("nought", (-3, 0, 1), (1,), multiplied((-2, 0, 1), (-1, 1)))), False)
        self.assertIs(sign_right((), point(3), ("nought", (1,), (), (-3, 1))), False)

    def test_other_words_and_shapes(self):
        for s, n in (((-2, 0, 1), ROOT_TWO), ((), point(3)), ((-3, 1), point(3))):
            for paper in spoiled_words(sign_paper(s, n)):
                self.assertIs(sign_right(s, n, paper), False)
        for s, n in (((-1, 1), ROOT_TWO), ((1, 1), point(3))):
            paper = sign_paper(s, n)
            for wrong in (list(paper), paper[:2], paper[1:], paper + (1,), paper + ((1, 1),), (paper,), ()):
                self.assertIs(sign_right(s, n, wrong), False)

    def test_what_is_no_fraction(self):
        for thing in anything() + [(2, 2), (1, True), [1, 1], (1, 0), 1]:
            self.assertIs(sign_right((1, 1), ROOT_TWO, (1, thing, (2, 1))), False)
            self.assertIs(sign_right((1, 1), ROOT_TWO, (1, (1, 1), thing)), False)
            self.assertIs(sign_right((1, 1), ROOT_TWO, (1, thing, thing)), False)

    def test_anything_at_all(self):
        for thing in anything() + [("nought", None, None, None), (Odd(), (1, 1), (2, 1)), (Odd(),) * 4, (1, Odd(), Odd())]:
            for s, n in (((-1, 1), ROOT_TWO), ((), ROOT_TWO), ((-3, 1), point(3))):
                self.assertIs(sign_right(s, n, thing), False)


if __name__ == "__main__":
    unittest.main()
