import unittest
from fractions import Fraction

from rootcourt.cuts import roots_of
from rootcourt.errors import CourtError, TooGreat
from rootcourt.forms import f_of, f_plus, f_scaled, f_times, is_form
from rootcourt.numbers import beside, halved, is_number
from rootcourt.opposites import minus_of
from rootcourt.order import order
from rootcourt.sums import sum_of, sum_paper, sum_right
from tests.helper import (ROOT_TWO, Odd, added, anything, linear, meant, multiplied, paired, point, some_fraction,
                          some_poly, source, squeezed, stretch, told)
from tests.test_forms import X, Y, Z, added_up, product

GREAT = 10 ** 60 + 7
HUGE = 10 ** 1500
ROOT_THREE = stretch((-3, 0, 1), 1, 2)
HALF = stretch((-1, 2), 0, 1)
THIRD = stretch((-1, 3), 0, 1)
ONE = (((0, 0, 0), 1),)


def of_degree(size):
    """A number whose polynomial has this degree: the root of 2 of this size, above 0."""
    return stretch((-2,) + (0,) * (size - 1) + (1,), 1, 2)


def some_numbers(random, size, figures):
    """Roots of some polynomial of a degree up to a size; of one that is told by its degree alone, or a point."""
    found = roots_of(some_poly(random, size, figures))
    return found if found else [point(some_fraction(random, figures))]


def ordinary_pairs():
    """Pairs of points and stretches of all kinds, whose degrees multiplied are 16 at most."""
    below = stretch((-2, 0, 1), -2, -1)
    cubic = stretch((-5, 1, 0, 1), 1, 2)
    wide = stretch((-3, 0, 1), Fraction(-1, 2), 40)
    nought = stretch((0, -2, 0, 1), -1, 1)
    with_nought = stretch((0, -2, 0, 1), 1, 2)
    return [
        (ROOT_TWO, ROOT_THREE), (ROOT_TWO, ROOT_TWO), (ROOT_TWO, below), (below, ROOT_THREE), (below, below),
        (ROOT_TWO, wide), (wide, cubic), (cubic, cubic), (cubic, below), (HALF, THIRD), (HALF, HALF),
        (HALF, ROOT_TWO), (ROOT_TWO, HALF), (stretch((-1, 0, 4), 0, 1), THIRD), (nought, ROOT_TWO), (ROOT_TWO, nought),
        (nought, nought), (with_nought, with_nought), (with_nought, HALF), (stretch((0, 1), -1, 1), ROOT_TWO),
        (point(Fraction(1, 2)), ROOT_TWO), (ROOT_TWO, point(-3)), (point(Fraction(-7, 3)), below),
        (point(0), ROOT_TWO), (cubic, point(0)), (point(Fraction(1, 2)), HALF), (HALF, point(Fraction(-1, 2))),
        (stretch((-1, GREAT), 0, 1), stretch((-GREAT, 0, 1), 0, GREAT)),
        (stretch((-1, 0, GREAT), 0, 1), stretch((-1, 0, GREAT + 1), 0, 1)),
        (stretch((-1, 0, GREAT), 0, 1), stretch((-1, 0, GREAT + 1), -1, 0)),
        (stretch((-10 ** 40, 0, 1), 0, 10 ** 40), cubic), (of_degree(4), of_degree(4)), (of_degree(2), of_degree(8)),
        (of_degree(16), point(Fraction(1, 3))), (HALF, of_degree(16)),
        (stretch((1, -3, 0, 1), 0, 1), stretch((1, -3, 0, 1), 1, 2)),
        (stretch(multiplied((1, 0, 1), (-2, 1)), 1, 4), stretch(multiplied((1, 1, 1), (5, 3)), -2, Fraction(-3, 2))),
    ]


class Pairing:
    """What holds of sums and of products alike; mixed into a class that says which of the two is meant."""

    def told_and_checked(self, a, b):
        """The paper told for two numbers, behind a check of all that it must be by another reckoning."""
        paper = self.paper_of(a, b)
        self.assertIs(type(paper), tuple)
        self.assertEqual(len(paper), 6)
        n, one, other, scale, left, right = paper
        self.assertIs(self.right_of(a, b, paper), True)
        self.assertEqual(n[0], self.found_of(a, b)[0])
        for number in (n, self.found_of(a, b)):
            self.assertIs(is_number(number), True)
            self.check_place(number, a, b)
        self.assertTrue(is_form(left) and is_form(right) and type(scale) is int and scale >= 1)
        self.check_identity(n[0], a[0], b[0], scale, left, right)
        return paper

    def check_place(self, n, a, b):
        """That fractions on both sides, ever nearer, lie on the right sides of n."""
        for figures in (3, 25):
            ends = (squeezed(a, Fraction(1, 10 ** figures)), squeezed(b, Fraction(1, 10 ** figures)))
            corners = [self.joined(left, right) for left in ends[0] for right in ends[1]]
            least, greatest = min(corners), max(corners)
            if least == greatest:
                self.assertEqual(beside(n, told(least)), 0)
            else:
                self.assertEqual((beside(n, told(least)), beside(n, told(greatest))), (1, -1))

    def check_identity(self, r, p, q, scale, left, right):
        """That scale times r of both names joined is left p(x) + right q(y), power by power."""
        whole, raised = [], ONE
        for weight in r:
            whole += [(powers, weight * number * scale) for powers, number in raised]
            raised = product(raised, self.joined_names)
        both = product(left, f_of(p, "x")) + product(right, f_of(q, "y"))
        self.assertEqual(added_up(whole), added_up(both))

    def test_ordinary_pairs(self):
        for a, b in ordinary_pairs():
            self.assertTrue(is_number(a) and is_number(b))
            self.told_and_checked(a, b)
            self.told_and_checked(b, a)

    def test_the_polynomial(self):
        for a, b in ordinary_pairs():
            self.assertEqual(self.found_of(a, b)[0], paired(a[0], b[0], self.deed))

    def test_random_pairs(self):
        random = source(110)
        for turn in range(40):
            figures = random.choice((1, 1, 12))
            sizes = random.choice(((4, 4), (2, 6), (3, 3), (1, 5), (8, 2)))
            for a in some_numbers(random, sizes[0], figures)[:2]:
                for b in some_numbers(random, sizes[1], figures)[:2]:
                    paper = self.told_and_checked(a, b)
                    if turn < 12:
                        self.assertEqual(paper[0][0], paired(a[0], b[0], self.deed))

    def test_points_are_told_as_points(self):
        random = source(111)
        for turn in range(40):
            one, other = some_fraction(random, random.choice((1, 40))), some_fraction(random, random.choice((1, 40)))
            one = Fraction(0) if turn % 7 == 0 else one
            self.assertEqual(self.found_of(point(one), point(other)), point(self.joined(one, other)))
            paper = self.told_and_checked(point(one), point(other))
            self.assertEqual(paper[0], point(self.joined(one, other)))
            self.assertEqual(paper[1:3], ((told(one), told(one)), (told(other), told(other))))

    def test_degrees_of_sixteen_and_above(self):
        for sizes in ((4, 4), (2, 8), (16, 1), (1, 16), (8, 2)):
            self.assertIs(is_number(self.found_of(of_degree(sizes[0]), of_degree(sizes[1]))), True)
        self.assertIs(is_number(self.found_of(point(3), of_degree(16))), True)
        for a, b in ((of_degree(17), of_degree(1)), (of_degree(1), of_degree(17)), (of_degree(5), of_degree(4)),
                     (of_degree(17), point(3)), (point(0), of_degree(17)), (of_degree(20), of_degree(20)),
                     (of_degree(3), of_degree(6)), (of_degree(9), ROOT_TWO)):
            for deed in (self.found_of, self.paper_of):
                with self.assertRaises(TooGreat):
                    deed(a, b)
                with self.assertRaises(CourtError):
                    deed(a, b)

    def test_weights_of_many_figures(self):
        random = source(112)
        one = (-10 ** 399 - 1,) + tuple(random.randint(-10 ** 399, 10 ** 399) for place in range(3)) + (10 ** 399,)
        other = (-10 ** 398 - 1,) + tuple(random.randint(-10 ** 399, 10 ** 399) for place in range(3)) + (10 ** 399 + 3,)
        a, b = roots_of(one)[0], roots_of(other)[-1]
        self.told_and_checked(a, b)

    def test_asked_again(self):
        for a, b in ordinary_pairs()[:8]:
            self.assertEqual(self.found_of(a, b), self.found_of(a, b))
            self.assertEqual(self.paper_of(a, b), self.paper_of(a, b))

    def test_papers_of_others_with_a_greater_scale(self):
        for a, b in ordinary_pairs()[:24]:
            n, one, other, scale, left, right = self.paper_of(a, b)
            greater = (n, one, other, 6 * scale, f_scaled(left, 6), f_scaled(right, 6))
            self.assertIs(self.right_of(a, b, greater), True)

    def test_papers_of_others_with_other_forms(self):
        for a, b in ordinary_pairs()[:24]:
            n, one, other, scale, left, right = self.paper_of(a, b)
            for more in (ONE, f_plus(X, f_times(Y, Z))):
                further = (f_plus(left, f_times(more, f_of(b[0], "y"))),
                           f_plus(right, f_scaled(f_times(more, f_of(a[0], "x")), -1)))
                self.assertIs(self.right_of(a, b, (n, one, other, scale) + further), True)

    def test_papers_with_narrower_stretches(self):
        for a, b in ordinary_pairs()[:12]:
            paper = self.paper_of(a, b)
            near_a, near_b = (a[0],) + paper[1], (b[0],) + paper[2]
            for turn in range(3):
                near_a, near_b = halved(near_a), halved(near_b)
                # A root in the middle comes as a fraction twice.
                narrow = (paper[0], near_a[1:], near_b[1:]) + paper[3:]
                self.assertIs(self.right_of(a, b, narrow), True)

    def test_a_number_that_is_narrower_than_the_paper_shows(self):
        for a, b in ((ROOT_TWO, ROOT_THREE), (HALF, ROOT_TWO), (point(Fraction(1, 2)), ROOT_TWO)):
            paper = self.paper_of(a, b)
            n = paper[0]
            for turn in range(12):
                n = halved(n)
            self.assertIs(is_number(n), True)
            self.assertIs(self.right_of(a, b, (n,) + paper[1:]), False)

    def test_another_number(self):
        for a, b in ordinary_pairs():
            paper = self.paper_of(a, b)
            others = [point(12345), stretch((-3, 0, 0, 1), 1, 2), a if a[0] != paper[0][0] else point(54321)]
            found = [n for n in roots_of(paper[0][0]) if order(n, paper[0]) != 0]
            for n in others + found:
                self.assertIs(self.right_of(a, b, (n,) + paper[1:]), False)

    def test_another_scale(self):
        for a, b in ordinary_pairs()[:24]:
            paper = self.paper_of(a, b)
            for scale in (0, -1, -paper[3], paper[3] + 1, 2 * paper[3], True, False, float(paper[3]), None, "1", (1,),
                          Odd(), Fraction(1)):
                self.assertIs(self.right_of(a, b, paper[:3] + (scale,) + paper[4:]), False)
        zero = self.paper_of(ROOT_TWO, ROOT_THREE)[:3] + (0, (), ())
        self.assertIs(self.right_of(ROOT_TWO, ROOT_THREE, zero), False)

    def test_other_forms(self):
        for a, b in ordinary_pairs()[:24]:
            paper = self.paper_of(a, b)
            for place in (4, 5):
                form = paper[place]
                for wrong in (f_plus(form, ONE), f_plus(form, Z), f_scaled(form, 2), f_scaled(form, -1), list(form),
                              form + (((0, 0, 0), 0),), None, Odd(), (form,), form + form):
                    if not isinstance(wrong, tuple) or wrong != form:
                        self.assertIs(self.right_of(a, b, paper[:place] + (wrong,) + paper[place + 1:]), False)
            exchanged = paper[:4] + (paper[5], paper[4])
            self.assertIs(self.right_of(a, b, exchanged), self.deed_holds(a, b, exchanged))

    def deed_holds(self, a, b, paper):
        try:
            self.check_identity(paper[0][0], a[0], b[0], *paper[3:])
        except AssertionError:
            return False
        return True

    def test_truths_in_forms(self):
        paper = self.paper_of(ROOT_TWO, point(1))
        for place in (4, 5):
            for row, (powers, weight) in enumerate(paper[place]):
                if weight == 1:
                    wrong = paper[place][:row] + ((powers, True),) + paper[place][row + 1:]
                    self.assertEqual(wrong, paper[place])
                    self.assertIs(self.right_of(ROOT_TWO, point(1), paper[:place] + (wrong,) + paper[place + 1:]), False)

    def test_other_shapes(self):
        for a, b in ordinary_pairs()[:24]:
            paper = self.paper_of(a, b)
            for wrong in (list(paper), paper[:-1], paper[1:], paper + ((),), paper + (1,), (paper,), (), [], {}):
                self.assertIs(self.right_of(a, b, wrong), False)

    def test_things_that_are_no_stretches(self):
        for a, b in ((ROOT_TWO, ROOT_THREE), (point(1), ROOT_TWO), (point(1), point(2))):
            paper = self.paper_of(a, b)
            for place in (1, 2):
                lo, hi = paper[place]
                for wrong in anything() + [[lo, hi], (lo,), (lo, hi, hi), (list(lo), hi), (lo, list(hi)), lo, (lo, None),
                                           (lo, hi[0]), (Odd(), Odd()), (lo, (2 * hi[0], 2 * hi[1]))]:
                    self.assertIs(self.right_of(a, b, paper[:place] + (wrong,) + paper[place + 1:]), False)

    def test_things_that_are_no_numbers(self):
        for a, b in ((ROOT_TWO, ROOT_THREE), (point(1), ROOT_TWO), (point(1), point(2))):
            paper = self.paper_of(a, b)
            r, lo, hi = paper[0]
            for wrong in anything() + [[r, lo, hi], (r, lo), (r, hi, lo) + (lo,) * (lo == hi), ((), lo, hi),
                                       (tuple(-weight for weight in r), lo, hi), (multiplied(r, (2,)), lo, hi),
                                       (multiplied(r, (9, 1), (9, 1)), lo, hi), (r, list(lo), hi)]:
                self.assertIs(self.right_of(a, b, (wrong,) + paper[1:]), False)

    def test_anything_at_all(self):
        for thing in anything() + [(Odd(),) * 6, (None,) * 6, ((),) * 6, (ROOT_TWO,) * 6, (ROOT_TWO, None) * 3]:
            for a, b in ((ROOT_TWO, ROOT_THREE), (point(1), ROOT_TWO), (point(1), point(2)), (of_degree(9), of_degree(9))):
                self.assertIs(self.right_of(a, b, thing), False)

    def test_stretches_that_do_not_lie_well(self):
        two_roots = stretch(multiplied((-1, 1), (-3, 1)), 0, 2)
        for a, b in ((ROOT_TWO, ROOT_THREE), (two_roots, ROOT_TWO), (HALF, ROOT_TWO), (HALF, THIRD)):
            paper = self.paper_of(a, b)
            lo, hi = meant(paper[1][0]), meant(paper[1][1])
            wrongs = [(hi, lo), (lo, lo), (hi, hi), (meant(a[1]) - 1, hi), (lo, meant(a[2]) + 1), (lo, Fraction(hi) + 99),
                      (Fraction(7, 5), Fraction(7, 5)), (Fraction(3, 1), Fraction(3, 1)), (Fraction(-3), Fraction(-2)),
                      (Fraction(1, 2), hi), (lo, Fraction(1, 2)), (Fraction(1), hi)]
            for wrong in wrongs:
                pair = (told(wrong[0]), told(wrong[1]))
                if pair != paper[1] and not self.well(a, wrong):
                    self.assertIs(self.right_of(a, b, paper[:1] + (pair,) + paper[2:]), False)
                    turned = (paper[0], paper[2], pair, paper[3], self.turned(paper[5]), self.turned(paper[4]))
                    self.assertIs(self.right_of(b, a, turned), False)
            turned = (paper[0], paper[2], paper[1], paper[3], self.turned(paper[5]), self.turned(paper[4]))
            self.assertIs(self.right_of(b, a, turned), True)

    def test_stretches_that_reach_beyond(self):
        # n is wide enough to hold whatever these stretches give.
        whole, half = (Fraction(1), Fraction(2)), (Fraction(1, 2), Fraction(2))
        for a, b, pairs in ((ROOT_TWO, ROOT_THREE, ((whole, True), (half, False), ((Fraction(1), Fraction(3)), False))),
                            (point(1), ROOT_TWO, (((Fraction(1), Fraction(1)), True), (whole, False), (half, False),
                                                  ((Fraction(1, 2), Fraction(1)), False)))):
            paper = self.paper_of(a, b)
            n = stretch(paper[0][0], Fraction(2, 5), 100)
            self.assertIs(is_number(n), True)
            for (first, last), expected in pairs:
                pair = (told(first), told(last))
                self.assertIs(self.right_of(a, b, (n, pair, ((1, 1), (2, 1))) + paper[3:]), expected)

    def test_fractions_twice_that_are_other_roots(self):
        p = multiplied((-1, 1), (-3, 1))
        for a, meant_root, other_root in ((stretch(p, 0, 2), 1, 3), (stretch(p, 2, 4), 3, 1)):
            paper = self.paper_of(a, point(1))
            r, once = paper[0][0], ((1, 1), (1, 1))
            for root, other in ((meant_root, other_root), (other_root, meant_root)):
                here, there = [self.joined(Fraction(end), Fraction(1)) for end in (root, other)]
                twice = (told(Fraction(root)),) * 2
                n, far = stretch(r, here - 1, here + 1), stretch(r, there - 1, there + 1)
                self.assertTrue(is_number(n) and is_number(far))
                self.assertIs(self.right_of(a, point(1), (n, twice, once) + paper[3:]), root == meant_root)
                self.assertIs(self.right_of(a, point(1), (far, twice, once) + paper[3:]), False)

    def well(self, n, pair):
        p, lo, hi = n[0], meant(n[1]), meant(n[2])
        first, last = pair
        values = [sum(weight * end ** place for place, weight in enumerate(p)) for end in pair]
        if first == last:
            return lo < first < hi and values[0] == 0
        return lo <= first < last <= hi and values[0] * values[1] < 0

    def turned(self, form):
        """The form with x and y exchanged."""
        return added_up([((j, i, k), weight) for (i, j, k), weight in form])

    def test_points_that_do_not_lie_well(self):
        for a, b in ((point(1), ROOT_TWO), (point(1), point(2))):
            paper = self.paper_of(a, b)
            for pair in (((0, 1), (2, 1)), ((1, 1), (2, 1)), ((0, 1), (1, 1)), ((2, 1), (2, 1)), ((2, 1), (1, 1))):
                self.assertIs(self.right_of(a, b, paper[:1] + (pair,) + paper[2:]), False)

    def test_degrees_above_sixteen_may_be_checked(self):
        a, b = of_degree(17), point(1)
        n = self.joined_with_one(a)
        self.assertIs(is_number(n), True)
        whole = product_of_powers(n[0], self.joined_names)
        left, right = divided_by_both(whole, a[0])
        paper = (n, a[1:], b[1:], 1, left, right)
        self.assertIs(self.right_of(a, b, paper), True)
        self.assertIs(self.right_of(a, b, paper[:3] + (2,) + paper[4:]), False)


def product_of_powers(r, names):
    """r of both names joined, as a form."""
    whole, raised = [], ONE
    for weight in r:
        whole += [(powers, weight * number) for powers, number in raised]
        raised = product(raised, names)
    return added_up(whole)


def divided_by_both(whole, p):
    """left and right with left p(x) + right (y - 1) the whole; p's last weight is 1."""
    right = []
    for (i, j, k), weight in whole:
        right += [((i, step, k), weight) for step in range(j)]
    at_one = added_up([((i, 0, 0), weight) for (i, j, k), weight in whole])
    left = []
    while at_one:
        (i, j, k), weight = at_one[-1]
        left.append(((i - len(p) + 1, 0, 0), weight))
        at_one = added_up(at_one + product(((left[-1][0], -weight),), f_of(p, "x")))
    return added_up(left), added_up(right)


class Sums(Pairing, unittest.TestCase):

    deed = "sum"
    joined_names = f_plus(X, Y)

    def found_of(self, a, b):
        return sum_of(a, b)

    def paper_of(self, a, b):
        return sum_paper(a, b)

    def right_of(self, a, b, paper):
        return sum_right(a, b, paper)

    def joined(self, one, other):
        return one + other

    def joined_with_one(self, a):
        weights = ()
        for weight in reversed(a[0]):
            weights = added(multiplied(weights, (-1, 1)), (weight,))
        return stretch(weights, meant(a[1]) + 1, meant(a[2]) + 1)

    def test_known_sums(self):
        self.assertEqual(sum_of(ROOT_TWO, ROOT_THREE)[0], (1, 0, -10, 0, 1))
        self.assertEqual(sum_of(ROOT_TWO, ROOT_TWO)[0], (0, -8, 0, 1))
        self.assertEqual(sum_of(ROOT_TWO, point(1))[0], (-1, -2, 1))
        self.assertEqual(sum_of(HALF, THIRD)[0], (-5, 6))
        self.assertEqual(sum_of(stretch((-1, 0, 4), 0, 1), HALF)[0], (0, -1, 1))

    def test_a_number_and_its_minus(self):
        for a in (ROOT_TWO, HALF, stretch((-5, 1, 0, 1), 1, 2), point(7), of_degree(4)):
            self.assertEqual(beside(sum_of(a, minus_of(a)), (0, 1)), 0)
        self.assertEqual(sum_of(ROOT_TWO, minus_of(ROOT_TWO))[0], (0, -8, 0, 1))

    def test_a_number_and_itself(self):
        twice = sum_of(ROOT_TWO, ROOT_TWO)
        self.assertEqual([beside(twice, r) for r in ((14, 5), (141, 50), (283, 100), (3, 1))], [1, 1, -1, -1])

    def test_roots_that_are_fractions(self):
        one, other = (Fraction(-1), Fraction(1, 2), Fraction(3)), (Fraction(-1), Fraction(0), Fraction(5, 2))
        p, q = multiplied(*[linear(r) for r in one]), multiplied(*[linear(r) for r in other])
        r = multiplied(*[linear(s) for s in sorted({left + right for left in one for right in other})])
        for a, left in zip(roots_of(p), one):
            for b, right in zip(roots_of(q), other):
                found = sum_of(a, b)
                self.assertEqual(found[0], r)
                self.assertEqual(beside(found, told(left + right)), 0)

    def test_sums_that_lie_very_near(self):
        a, b = stretch((-2, 0, 1), 1, 2), stretch((-2 * GREAT - 1, 0, GREAT), -2, -1)
        found = sum_of(a, b)
        self.assertEqual(beside(found, (0, 1)), -1)
        self.assertEqual(beside(found, (-1, GREAT)), 1)

    def test_however_great(self):
        found = sum_of(stretch((-HUGE * HUGE - 1, 0, 1), 0, 2 * HUGE), point(1))
        self.assertEqual((beside(found, (HUGE + 1, 1)), beside(found, (HUGE + 2, 1))), (1, -1))

    def test_what_is_told_may_be_handed_in_again(self):
        four = sum_of(ROOT_TWO, ROOT_THREE)
        self.assertEqual(len(sum_of(four, four)[0]) - 1, 9)
        back = sum_of(four, minus_of(ROOT_THREE))
        self.assertEqual([beside(back, r) for r in ((7, 5), (3, 2))], [1, -1])

    def test_fractions_twice(self):
        half = ((1, 2), (1, 2))
        n, one, other, scale, left, right = sum_paper(HALF, ROOT_TWO)
        n = stretch(n[0], Fraction(3, 2), Fraction(5, 2))
        self.assertIs(sum_right(HALF, ROOT_TWO, (n, half, ((1, 1), (2, 1)), scale, left, right)), True)
        tail = sum_paper(HALF, THIRD)[3:]
        third = ((1, 3), (1, 3))
        self.assertIs(sum_right(HALF, THIRD, (stretch((-5, 6), 0, 1), half, third) + tail), True)
        self.assertIs(sum_right(HALF, THIRD, (point(Fraction(5, 6)), half, third) + tail), True)
        self.assertIs(sum_right(HALF, THIRD, (point(Fraction(5, 7)), half, third) + tail), False)
        # One of them as a stretch: so n is no point.
        self.assertIs(sum_right(HALF, THIRD, (point(Fraction(5, 6)), ((0, 1), (1, 1)), third) + tail), False)
        self.assertIs(sum_right(HALF, THIRD, (stretch((-5, 6), 0, 2), ((0, 1), (1, 1)), third) + tail), True)
        self.assertIs(sum_right(HALF, THIRD, (stretch((-5, 6), Fraction(1, 3), Fraction(4, 3)), ((0, 1), (1, 1)), third)
                                + tail), True)
        self.assertIs(sum_right(HALF, THIRD, (stretch((-5, 6), Fraction(2, 5), 2), ((0, 1), (1, 1)), third) + tail), False)
        self.assertIs(sum_right(HALF, THIRD, (stretch((-5, 6), 0, Fraction(5, 4)), ((0, 1), (1, 1)), third) + tail), False)

    def test_another_polynomial_of_others(self):
        # r times t - 3: the papers of others need not have the polynomial that is told.
        n, one, other, scale, left, right = sum_paper(HALF, THIRD)
        more = f_plus(f_plus(X, Y), f_scaled(ONE, -3))
        tail = (scale, f_times(left, more), f_times(right, more))
        r = multiplied((-5, 6), (-3, 1))
        half, third = ((1, 2), (1, 2)), ((1, 3), (1, 3))
        self.assertIs(sum_right(HALF, THIRD, (stretch(r, 0, 2), half, third) + tail), True)
        self.assertIs(sum_right(HALF, THIRD, (stretch(r, 2, 4), half, third) + tail), False)
        self.assertIs(sum_right(HALF, THIRD, (stretch(r, 0, Fraction(5, 2)), ((0, 1), (1, 1)), ((0, 1), (1, 1))) + tail), True)
        self.assertIs(sum_right(HALF, THIRD, (stretch(r, 2, 4), ((0, 1), (1, 1)), ((0, 1), (1, 1))) + tail), False)


if __name__ == "__main__":
    unittest.main()
