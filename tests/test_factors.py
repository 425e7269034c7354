import unittest
from fractions import Fraction
from itertools import combinations, product

from rootcourt.errors import CourtError, TooGreat
from rootcourt.factors import factor_paper, factors, factors_right, part_paper, part_right
from rootcourt.lift import lifted
from rootcourt.modular import by_number
from rootcourt.split import free_by, is_prime, parts_by
from tests.helper import Odd, anything, divided, made_plain, multiplied, no_tuples, source, trimmed

EIGHTH_ROOT = (1, 0, 0, 0, 1)
TWO_ROOTS = (1, 0, -10, 0, 1)
THREE_ROOTS = (576, 0, -960, 0, 352, 0, -40, 0, 1)
MILLION = 10 ** 6

# None of these splits: by Eisenstein's rule, by a prime by which they don't, or as roots of 1 or sums of roots.
UNSPLIT = [
    (0, 1), (1, 1), (-1, 1), (-3, 2), (5, 7), (1, 0, 1), (-2, 0, 1), (1, 1, 1), (2, 0, 3), (-1, -1, 1), (-2, 0, 0, 1),
    (1, 1, 0, 1), (3, 6, 0, 2), EIGHTH_ROOT, TWO_ROOTS, (1, 1, 1, 1, 1), (-10, 5, 0, 0, 3), (-2, 0, 0, 0, 0, 1),
    (1, -1, 0, 1, -1, 1, 0, -1, 1), THREE_ROOTS, (1, 0, 0, 0, 0, 0, 0, 0, 1), (1, 1, 1, 1, 1, 1, 1),
]


def by_order(pairs):
    return sorted(pairs, key=lambda pair: (len(pair[0]), pair[0]))


def divisors(number):
    below = [one for one in range(1, abs(number) + 1) if number % one == 0]
    return below + [-one for one in below]


def through(points, values):
    """The polynomial through these points, by Lagrange's way, with fractions as weights."""
    found = [Fraction(0)] * len(points)
    for here, value in zip(points, values):
        row = (Fraction(value),)
        for other in points:
            if other != here:
                row = multiplied(row, (Fraction(-other, here - other), Fraction(1, here - other)))
        for place, weight in enumerate(row):
            found[place] += weight
    return trimmed(found)


def splits_by_search(f):
    """By Kronecker's way: a part's values divide the values of the whole."""
    for size in range(1, (len(f) - 1) // 2 + 1):
        points = (0, 1, -1)[:size + 1]
        values = [sum(weight * point ** place for place, weight in enumerate(f)) for point in points]
        if 0 in values:
            return True
        for some in product(*[divisors(value) for value in values]):
            part = through(points, some)
            if len(part) == size + 1 and not divided(f, part)[1]:
                return True
    return False


def in_size(p):
    return len(p) <= 9 and all(abs(weight) < MILLION for weight in p)


def paper_by(f, t, e):
    return (t, e, lifted(f, t, parts_by(by_number(f, t), t), e))


def least_exponent(f, t):
    """The least e that is great enough for a part's paper."""
    n = len(f) - 1
    e = 1
    while t ** e <= 2 ** (n + 1) * (n + 1) * max(abs(weight) for weight in f) * f[-1]:
        e += 1
    return e


def good_primes(f, end):
    return [t for t in range(end) if is_prime(t) and f[-1] % t and free_by(by_number(f, t), t)]


class Factors(unittest.TestCase):

    def check(self, unit, parts):
        """That of a product of these, with how often each comes, just these are told."""
        p = multiplied((unit,), *[part for part, times in parts for time in range(times)])
        self.assertTrue(in_size(p))
        found = factors(p)
        self.assertIs(type(found), tuple)
        self.assertIs(type(found[1]), list)
        self.assertEqual(found, (unit, by_order(parts)))
        self.assertEqual(factors(p), found)

    def test_numbers(self):
        self.assertEqual(factors(()), (0, []))
        for number in (1, -1, 2, -6, 999999, -999999):
            self.assertEqual(factors((number,)), (number, []))

    def test_written_ones(self):
        self.assertEqual(factors((-2, 0, 2)), (2, [((-1, 1), 1), ((1, 1), 1)]))
        self.assertEqual(factors((0, 0, 6, -3)), (-3, [((-2, 1), 1), ((0, 1), 2)]))
        self.assertEqual(factors((-1, 0, 0, 0, 0, 0, 1)),
                         (1, [((-1, 1), 1), ((1, 1), 1), ((1, -1, 1), 1), ((1, 1, 1), 1)]))
        self.assertEqual(factors((4, 0, 0, 0, 1)), (1, [((2, -2, 1), 1), ((2, 2, 1), 1)]))
        self.assertEqual(factors((1, 4, 4)), (1, [((1, 2), 2)]))
        self.assertEqual(factors((-6, 4)), (2, [((-3, 2), 1)]))

    def test_what_does_not_split(self):
        for part in UNSPLIT:
            for unit in (1, -1, 6, -15):
                self.check(unit, [(part, 1)])

    def test_products(self):
        random = source(230)
        many = 0
        while many < 300:
            parts = [(part, random.choice((1, 1, 1, 2, 3, 8))) for part in random.sample(UNSPLIT, random.randint(1, 4))]
            unit = random.choice((1, -1, 2, -12, 35))
            if in_size(multiplied((unit,), *[part for part, times in parts for time in range(times)])):
                self.check(unit, parts)
                many += 1

    def test_parts_that_come_several_times(self):
        self.check(1, [((0, 1), 8)])
        self.check(-7, [((1, 2), 8)])
        self.check(1, [((-2, 0, 1), 4)])
        self.check(3, [(EIGHTH_ROOT, 2)])
        self.check(1, [((1, 1), 1), ((-1, 1), 2), ((2, 1), 2), ((3, 1), 3)])

    def test_all_of_degree_one(self):
        self.check(1, [((root, 1), 1) for root in range(-4, 4)])
        self.check(-2, [((root, 2), 1) for root in (-7, -5, -3, -1, 1, 3, 5)])

    def test_small_ones_by_search(self):
        random = source(231)
        for turn in range(150):
            p = tuple(random.randint(-4, 4) for place in range(random.randint(2, 5))) + (random.randint(1, 3),)
            unit, parts = factors(p)
            self.assertEqual(parts, by_order(parts))
            self.assertEqual(len(set(part for part, times in parts)), len(parts))
            whole = multiplied((unit,), *[part for part, times in parts for time in range(times)])
            self.assertEqual(whole, p)
            for part, times in parts:
                self.assertEqual(part, made_plain(part))
                self.assertTrue(len(part) > 1 and times >= 1)
                self.assertFalse(splits_by_search(part), part)

    def test_great_weights(self):
        self.assertEqual(factors((-999999, 0, 0, 1))[0], 1)
        self.check(1, [((999999, 999998, 1), 1)])
        self.check(1, [((-999, 1), 1), ((1001, 1), 1)])
        self.check(1, [((-499, 497), 2)])
        self.check(999, [((1, 1001), 1)])
        self.check(1, [((999999, 0, 0, 0, 0, 0, 0, -999998, 999997), 1)])

    def test_bounds(self):
        self.check(1, [((1, 0, 0, 0, 0, 0, 0, 0, 1), 1)])
        for p in ((0,) * 9 + (1,), (1,) + (0,) * 8 + (1,), (0,) * 20 + (1,), (MILLION,), (-MILLION,), (MILLION, 1),
                  (1, -MILLION), (0, MILLION, 1), (10 ** 60,), (-MILLION, 0, 0, 0, 0, 0, 0, 0, 1)):
            for told in (factors, factor_paper):
                for refusal in (TooGreat, CourtError):
                    with self.assertRaises(refusal):
                        told(p)
        for p in ((MILLION - 1,), (1 - MILLION,), (MILLION - 1, 1), (1, 1 - MILLION), (0, MILLION - 1, 1)):
            self.assertEqual(factors_right(p, factor_paper(p)), True)

    def test_lists_are_new(self):
        one = factors((0, 1))
        one[1].append(1)
        self.assertEqual(factors((0, 1)), (1, [((0, 1), 1)]))
        one = factors(())
        one[1].append(1)
        self.assertEqual(factors(()), (0, []))


class PartPapers(unittest.TestCase):

    def refused(self, f, paper):
        self.assertIs(part_right(f, paper), False)

    def let_by(self, f, paper):
        self.assertIs(part_right(f, paper), True)

    def test_told_ones(self):
        random = source(232)
        for f in UNSPLIT:
            paper = part_paper(f)
            self.assertIs(type(paper), tuple)
            self.assertEqual(len(paper), 0 if len(f) == 2 else 3)
            self.assertEqual(part_paper(f), paper)
            self.let_by(f, paper)
        for turn in range(100):
            figures = random.choice((1, 3, 6, 8))
            amid = [10 * random.randint(-10 ** figures, 10 ** figures) for place in range(random.randint(1, 7))]
            # By Eisenstein's rule with 2 it doesn't split.
            f = (random.choice((10, -10)),) + tuple(amid) + (10 * random.randint(0, 10 ** figures) + 3,)
            self.let_by(f, part_paper(f))

    def test_great_weights(self):
        f = (-2 * (5 * 10 ** 9 - 1), 0, 0, 0, 0, 0, 0, 0, 10 ** 10 - 1)
        self.let_by(f, part_paper(f))
        f = (-2 * (5 * 10 ** 9 - 1), 9999999998, 0, -9999999998, 0, 0, 0, 0, 1)
        self.let_by(f, part_paper(f))

    def test_of_others(self):
        for f in UNSPLIT:
            if len(f) > 2:
                for t in good_primes(f, 60) + good_primes(f, 1000)[-2:]:
                    least = least_exponent(f, t)
                    for e in (least, least + 1, least + 7):
                        paper = paper_by(f, t, e)
                        self.let_by(f, paper)
                        self.let_by(f, (t, e, paper[2][::-1]))
                    if least > 1:
                        self.refused(f, paper_by(f, t, least - 1))

    def test_for_degree_one(self):
        for f in ((0, 1), (-3, 2), (10 ** 50, 10 ** 60 + 1)):
            self.let_by(f, ())
            self.refused(f, paper_by((-3, 2), 5, 9))
            self.refused(f, (5, 9, [(3, 1)]))
            for thing in anything():
                self.refused(f, thing)
        for f in ((1, 0, 1), EIGHTH_ROOT, (-1, 0, 1), THREE_ROOTS):
            self.refused(f, ())

    def test_the_prime(self):
        f = EIGHTH_ROOT
        self.let_by(f, paper_by(f, 997, 2))
        self.refused(f, paper_by(f, 1009, 2))
        t, e, parts = paper_by(f, 3, 6)
        self.let_by(f, (t, e, parts))
        for other in (9, 27, 729, 1, 0, -3, 2, 6, True, "3", 3.0, None, Fraction(3), [3], Odd(), 10 ** 60):
            self.refused(f, (other, e, parts))
        self.refused(f, (9, 3, parts))
        self.refused(f, (729, 1, parts))
        f = (1, 1, 3)
        for parts in ([(1, 1, 1)], [(0, 1), (1, 1)], [(1, 1)]):
            self.refused(f, (3, 9, parts))

    def test_the_exponent(self):
        f = (1, 0, 1)
        self.let_by(f, (31, 1, [f]))
        for e in (True, False, 0, -1, 1.0, "1", None, [1], Odd(), Fraction(1)):
            self.refused(f, (31, e, [f]))
        f = TWO_ROOTS
        self.let_by(f, paper_by(f, 5, 600))
        self.refused(f, paper_by(f, 5, 601))
        self.let_by(f, paper_by(f, 997, 600))
        self.refused(f, paper_by(f, 997, 601))
        t, e, parts = paper_by(f, 5, 7)
        self.refused(f, (t, e + 1, parts))
        self.refused(f, (t, 10 ** 40, parts))

    def test_great_enough_is_greater(self):
        # 2 ** 4 * 4 * 1 * 1 is just 2 ** 6.
        f = (1, 1, 0, 1)
        self.refused(f, (2, 6, [f]))
        self.let_by(f, (2, 7, [f]))
        # The last weight and the greatest one count, each once: 2 ** 3 * 3 * 5 * 2 is 240.
        f = (5, 0, 2)
        self.refused(f, paper_by(f, 239, 1))
        self.let_by(f, paper_by(f, 241, 1))

    def test_the_list_of_parts(self):
        f = EIGHTH_ROOT
        t, e, parts = paper_by(f, 17, 4)
        self.assertEqual(len(parts), 4)
        self.let_by(f, (t, e, parts))
        for other in (tuple(parts), dict(enumerate(parts)), set(parts), [], parts[1:], parts[:-1], parts + [(1,)],
                      parts + [()], parts + [(0, 1)], parts + parts[:1], parts[:3] + parts[:1], parts[:3] + [()],
                      parts[:3] + [(1,)], parts[:3] + [list(parts[3])], parts[:3] + [None], parts[:3] + [Odd()],
                      parts[:3] + [(True, 1)], parts[:3] + [(parts[3][0], True)], [parts], None, Odd(), 4, "parts"):
            self.refused(f, (t, e, other))
        self.refused(f, (t, e, [parts[0] + (0,)] + parts[1:]))
        self.refused(f, (t, e, [(float(parts[0][0]), 1)] + parts[1:]))
        self.refused(f, (t, e, [(1,) * 300] * 4))

    def test_last_weights_of_parts(self):
        f, m = EIGHTH_ROOT, 17 ** 4
        parts = paper_by(f, 17, 4)[2]
        twice = remainders_of(parts[0], 2, m)
        half = remainders_of(parts[1], (m + 1) // 2, m)
        product_by_m = by_number(multiplied(twice, half, parts[2], parts[3]), m)
        self.assertEqual(product_by_m, f)
        self.refused(f, (17, 4, [twice, half] + parts[2:]))

    def test_weights_of_parts(self):
        f, m = EIGHTH_ROOT, 17 ** 4
        parts = paper_by(f, 17, 4)[2]
        for other in (parts[0][0] + m, parts[0][0] - m, -1, m, parts[0][0] + 1, parts[0][0] + 17, 0):
            self.refused(f, (17, 4, [(other, 1)] + parts[1:]))
        f = (1, 0, 1)
        self.let_by(f, (31, 1, [(1, 0, 1)]))
        self.refused(f, (31, 1, [(1, 31, 1)]))
        f = (1, 1, 1)
        self.let_by(f, (29, 1, [(1, 1, 1)]))
        self.refused(f, (29, 1, [(30, 1, 1)]))
        self.refused(f, (29, 1, [(-28, 1, 1)]))
        f = (-1, -1, 1)
        self.let_by(f, (37, 1, [(36, 36, 1)]))
        self.refused(f, (37, 1, [(-1, -1, 1)]))

    def test_a_part_that_splits_by_the_prime(self):
        for f, t in ((EIGHTH_ROOT, 3), (EIGHTH_ROOT, 17), (TWO_ROOTS, 5), (THREE_ROOTS, 7), (THREE_ROOTS, 71)):
            e = least_exponent(f, t)
            parts = paper_by(f, t, e)[2]
            self.assertGreater(len(parts), 1)
            self.refused(f, (t, e, [by_number(f, t ** e)]))
            joined = by_number(multiplied(parts[0], parts[1]), t ** e)
            self.refused(f, (t, e, [joined] + parts[2:]))

    def test_parts_alike_by_the_prime(self):
        # 7 has a square root by every power of 3, so 63 has one that leaves 0 by 3.
        m = 3 ** 9
        root = next(3 * one for one in range(3 ** 8) if (9 * one * one - 63) % m == 0)
        parts = [(root, 1), (m - root, 1)]
        self.assertEqual(by_number(multiplied(*parts), m), by_number((-63, 0, 1), m))
        self.refused((-63, 0, 1), (3, 9, parts))
        self.refused((1, 0, 1), (2, 7, [(1, 0, 1)]))

    def test_what_splits(self):
        for one, other in combinations(UNSPLIT, 2):
            f = multiplied(one, other)
            if len(f) <= 9:
                for t in good_primes(f, 40):
                    e = least_exponent(f, t)
                    self.refused(f, paper_by(f, t, e))
                    self.refused(f, (t, e, [by_number(f, t ** e)]))
        for f in ((-1, 0, 1), (0, 0, 1), (1, 2, 1), (0, 1, 1)):
            for t in (3, 5, 7, 97):
                for parts in ([(t ** 9 - 1, 1), (1, 1)], [(0, 1), (0, 1)], [(1, 1), (1, 1)], [(0, 1), (1, 1)]):
                    self.refused(f, (t, 9, parts))

    def test_from_degree_nine_on(self):
        for f in ((-2,) + (0,) * 8 + (1,), (3,) + (0,) * 15 + (1,), (1,) * 11):
            for t in good_primes(f, 30):
                self.refused(f, paper_by(f, t, least_exponent(f, t)))
            self.refused(f, ())
            for thing in anything():
                self.refused(f, thing)
        f = (-2,) + (0,) * 7 + (1,)
        self.let_by(f, paper_by(f, 3, least_exponent(f, 3)))

    def test_weights_of_many_figures(self):
        great = 10 ** 300 + 7
        f = (2 * great, 0, 2, 0, 1)
        self.let_by(f, paper_by(f, 997, least_exponent(f, 997)))
        f = multiplied((great, 1), (-great, 0, 1))
        self.refused(f, paper_by(f, 997, least_exponent(f, 997)))

    def test_anything(self):
        f = EIGHTH_ROOT
        t, e, parts = part_paper(f)
        for thing in anything() + [list((t, e, parts)), (t, e), (t, e, parts, ()), (t, parts, e), ((t, e, parts),),
                                   (t, e, parts, 1), {0: t, 1: e, 2: parts}, (Odd(), Odd(), Odd())]:
            self.refused(f, thing)
        for thing in anything():
            self.refused(f, (thing, e, parts))
            self.refused(f, (t, thing, parts))
            self.refused(f, (t, e, thing))
            self.refused(f, (t, e, [thing]))
            self.refused(f, (t, e, [parts[0], thing]))

    def test_nothing_is_changed(self):
        f = EIGHTH_ROOT
        paper = part_paper(f)
        kept = (paper[0], paper[1], list(paper[2]))
        part_right(f, paper)
        self.assertEqual(paper, kept)
        paper[2].append(1)
        self.assertEqual(part_paper(f), kept)


def remainders_of(part, factor, m):
    return tuple(weight * factor % m for weight in part)


class FactorPapers(unittest.TestCase):

    def refused(self, p, paper):
        self.assertIs(factors_right(p, paper), False)

    def let_by(self, p, paper):
        self.assertIs(factors_right(p, paper), True)

    def samples(self):
        random = source(233)
        found = [(), (1,), (-5,), (0, 1), (-2, 0, 2), (1, 4, 4), (-1, 0, 0, 0, 0, 0, 0, 0, 1), THREE_ROOTS,
                 multiplied(EIGHTH_ROOT, TWO_ROOTS), multiplied((-6,), EIGHTH_ROOT, (1, 1), (1, 1))]
        for turn in range(150):
            some = [tuple(random.randint(-9, 9) for place in range(random.randint(1, 4))) + (random.randint(1, 4),)
                    for part in range(random.randint(1, 3))]
            p = multiplied((random.choice((-1, 1, 4)),), *some)
            if in_size(p):
                found.append(p)
        return found

    def test_told_ones(self):
        for p in self.samples():
            paper = factor_paper(p)
            self.assertIs(type(paper), tuple)
            self.assertIs(type(paper[1]), list)
            self.assertEqual((paper[0], [row[:2] for row in paper[1]]), factors(p))
            self.let_by(p, paper)
            self.assertEqual(factor_paper(p), paper)

    def test_of_others(self):
        for p in self.samples():
            unit, rows = factor_paper(p)
            self.let_by(p, (unit, rows[::-1]))
            other = []
            for part, times, paper in rows:
                if len(part) > 2:
                    t = good_primes(part, 100)[-1]
                    paper = paper_by(part, t, least_exponent(part, t) + 2)
                other.append((part, times, paper))
            self.let_by(p, (unit, other))

    def test_weights_of_many_figures(self):
        great = 10 ** 200 + 9
        p = multiplied((great,), (great, 1), (great, 1), (2, great))
        self.let_by(p, (great, [((great, 1), 2, ()), ((2, great), 1, ())]))
        self.refused(p, (great, [((great, 1), 1, ()), ((2, great), 2, ())]))
        self.let_by((great,), (great, []))
        self.refused((great,), (great + 1, []))

    def test_nought(self):
        self.let_by((), (0, []))
        for paper in ((1, []), (False, []), (0, ()), (0, [((0, 1), 1, ())]), (0, [()]), (0, [None]), (0, [], ()), (0,),
                      (None, []), (0, {}), (0.0, [])):
            self.refused((), paper)
        for p in ((1,), (0, 1), (-2, 0, 2)):
            self.refused(p, (0, []))
            self.refused(p, (0, factor_paper(p)[1]))

    def test_the_unit(self):
        for p in self.samples()[1:]:
            unit, rows = factor_paper(p)
            for other in (-unit, unit + 1, 0, 2 * unit, None, str(unit), float(unit), [unit], Odd(), Fraction(unit)):
                self.refused(p, (other, rows))
        self.let_by((0, 1), (1, [((0, 1), 1, ())]))
        self.refused((0, 1), (True, [((0, 1), 1, ())]))
        self.refused((1,), (True, []))
        self.refused((0, -1), (1, [((0, -1), 1, ())]))

    def test_times(self):
        p = multiplied((1, 1), (1, 1), (0, 1))
        self.let_by(p, (1, [((0, 1), 1, ()), ((1, 1), 2, ())]))
        for one, other in ((0, 2), (-1, 2), (True, 2), (1, 1), (1, 3), (1, 2.0), (1, "2"), (1, None), (2, 1),
                           (1, Odd()), (1, 10 ** 30), (10 ** 30, 2), (1, [2])):
            self.refused(p, (1, [((0, 1), one, ()), ((1, 1), other, ())]))
        self.refused((1,), (1, [((0, 1), 0, ())]))
        self.refused((0, 1), (1, [((0, 1), 1, ()), ((1, 1), 0, ())]))

    def test_a_part_twice(self):
        p = multiplied((1, 1), (1, 1))
        self.let_by(p, (1, [((1, 1), 2, ())]))
        self.refused(p, (1, [((1, 1), 1, ()), ((1, 1), 1, ())]))

    def test_parts_that_are_not_plain(self):
        self.let_by((2, 4), (2, [((1, 2), 1, ())]))
        self.refused((2, 4), (1, [((2, 4), 1, ())]))
        self.refused((2, 4), (-2, [((-1, -2), 1, ())]))
        p = (-3, 0, -3)
        shown = part_paper((1, 0, 1))
        self.let_by(p, (-3, [((1, 0, 1), 1, shown)]))
        self.refused(p, (1, [((-3, 0, -3), 1, shown)]))
        self.refused(p, (-1, [((3, 0, 3), 1, shown)]))
        self.refused((6,), (2, [((3,), 1, ())]))
        self.refused((6,), (6, [((1,), 1, ())]))
        self.refused((), (1, [((), 1, ())]))

    def test_parts_that_split(self):
        f = multiplied((1, 0, 1), (2, 0, 1))
        for t in good_primes(f, 30):
            self.refused(f, (1, [(f, 1, paper_by(f, t, least_exponent(f, t)))]))
        self.refused(f, (1, [(f, 1, ())]))
        self.refused(f, (1, [(f, 1, part_paper(EIGHTH_ROOT))]))

    def test_papers_of_other_parts(self):
        p = multiplied(EIGHTH_ROOT, TWO_ROOTS)
        unit, rows = factor_paper(p)
        swapped = [rows[0][:2] + (rows[1][2],), rows[1][:2] + (rows[0][2],)]
        self.refused(p, (unit, swapped))
        for thing in anything() + [()]:
            self.refused(p, (unit, [rows[0], rows[1][:2] + (thing,)]))

    def test_the_rows(self):
        for p in (multiplied(EIGHTH_ROOT, (1, 1), (1, 1)), (-1, 0, 1), (0, 5)):
            unit, rows = factor_paper(p)
            self.let_by(p, (unit, rows))
            for other in (tuple(rows), rows[1:], rows[:-1], rows + [((7, 1), 1, ())], rows + rows[:1], rows + [()],
                          rows + [((1,), 1, ())], [list(row) for row in rows], [row[:2] for row in rows],
                          [row + ((),) for row in rows], dict(enumerate(rows)), rows[:-1] + [None],
                          rows[:-1] + [Odd()], [(list(row[0]),) + row[1:] for row in rows], [rows], None, Odd()):
                self.refused(p, (unit, other))
            for paper in ([unit, rows], (unit, rows, ()), (unit,), (rows, unit), ((unit, rows),), {0: unit, 1: rows}):
                self.refused(p, paper)

    def test_another_product(self):
        self.refused((1, 2, 1), (1, [((1, 1), 1, ()), ((2, 1), 1, ())]))
        self.refused((0, 1), (1, [((1, 1), 1, ())]))
        self.refused((0, 1), (1, []))

    def test_degree_nine(self):
        p = (0,) * 9 + (1,)
        self.refused(p, (1, [((0, 1), 9, ())]))
        self.let_by(p[1:], (1, [((0, 1), 8, ())]))
        p = multiplied(THREE_ROOTS, (1, 1))
        self.refused(p, (1, [((1, 1), 1, ()), (THREE_ROOTS, 1, part_paper(THREE_ROOTS))]))
        for thing in anything():
            self.refused(p, thing)

    def test_anything(self):
        for p in ((), (1,), (0, 1), (-2, 0, 1), THREE_ROOTS):
            for thing in anything():
                self.refused(p, thing)
                self.refused(p, (7, thing))
                self.refused(p, (thing, [None]))
                self.refused(p, (1, [thing]))
                self.refused(p, (1, [(thing, 1, ())]))
                self.refused(p, (1, [((0, 1), thing, thing)]))
        for thing in no_tuples():
            self.refused((0, 1), (1, [((0, 1), 1, thing)]))


if __name__ == "__main__":
    unittest.main()
