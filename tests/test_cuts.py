import unittest
from fractions import Fraction

from rootcourt.cuts import cuts_of, roots_of, roots_right
from rootcourt.errors import NoFree
from tests.helper import (added, anything, common_part, linear, made_plain, meant, multiplied, roots_below, slope,
                          some_poly, some_whole, source, told, turns, value_at)
from tests.test_changes import seen, seen_within

GREAT = 10 ** 70 + 9
TWICE = multiplied((-2,), (-1, 1), (-1, 1), (2, 3))


def near_pair(size, great):
    """x^size - 2 (great x - 1)^2, which has two roots that lie very close together."""
    return added((0,) * size + (1,), multiplied((-2,), (-1, great), (-1, great)))


def free_samples():
    yield from ((1,), (-7,), (0, 1), (5, -3), (-2, 0, 1), (2, 0, -4), (1, 0, 1), (0, -1, 0, 1), (1, 1, 1, 1, 1),
                (-1, 0, 0, 0, 1))
    yield multiplied(*[linear(root) for root in range(1, 21)])
    yield multiplied(*[linear(Fraction(root, 7)) for root in range(-9, 9)])
    yield multiplied(*[linear(10 ** power) for power in range(0, 60, 6)])
    yield multiplied(*[linear(Fraction(1, 10 ** power)) for power in range(0, 60, 6)])
    yield multiplied(linear(Fraction(1, GREAT)), linear(Fraction(1, GREAT + 1)), (1, 0, 1), linear(10 ** 150))
    yield multiplied((-2, 0, GREAT), (-3, 0, GREAT), (1, 0, GREAT))
    yield multiplied((-1, 4), (-1, 2), (-3, 4), (0, 1), (-1, 1), (1, 1), (1, 2))
    yield near_pair(5, 10 ** 9)
    yield near_pair(20, 10 ** 12)
    yield near_pair(8, 10 ** 100)
    # The 8th of Chebyshev's polynomials: all its roots are real and crowd at the ends.
    yield (1, 0, -32, 0, 160, 0, -256, 0, 128)
    random = source(50)
    for turn in range(60):
        p = some_poly(random, 9, random.choice((1, 2, 60)))
        if len(common_part(p, slope(p))) == 1:
            yield p
    yield tuple(some_whole(random, 399) for place in range(20)) + (1,)


def right_by_another_reckoning(p, cuts):
    points = [meant(cut) for cut in cuts]
    ends = (seen(p, points[0], -1), seen(p, points[-1], 1))
    if any(turns(end) for end in ends):
        return False
    return all(lo < hi and turns(seen_within(p, lo, hi)) < 2 for lo, hi in zip(points, points[1:]))


class RootsRight(unittest.TestCase):

    def test_right_lists(self):
        self.assertIs(roots_right((-2, 0, 1), [(-2, 1), (0, 1), (2, 1)]), True)
        self.assertIs(roots_right((-2, 0, 1), [(-2, 1), (-1, 1), (1, 1), (3, 2)]), True)
        self.assertIs(roots_right((5,), [(0, 1)]), True)
        self.assertIs(roots_right((5,), [(-1, 2), (0, 1), (7, 3)]), True)
        self.assertIs(roots_right((1, 0, 1), [(0, 1)]), True)

    def test_cuts_that_are_roots(self):
        self.assertIs(roots_right((0, 1), [(0, 1)]), True)
        self.assertIs(roots_right((-1, 0, 1), [(-1, 1), (1, 1)]), True)
        self.assertIs(roots_right((0, -1, 0, 1), [(-1, 1), (1, 1)]), True)
        self.assertIs(roots_right((0, 0, 1), [(0, 1)]), True)

    def test_not_free_may_be_cut(self):
        self.assertIs(roots_right((1, -2, 1), [(1, 1)]), True)
        self.assertIs(roots_right((1, -2, 1), [(0, 1), (2, 1)]), False)

    def test_an_empty_list(self):
        for p in ((5,), (1, 0, 1), (0, 1)):
            self.assertIs(roots_right(p, []), False)

    def test_nought(self):
        for cuts in ([], [(0, 1)], [(-1, 1), (1, 1)], None):
            self.assertIs(roots_right((), cuts), False)

    def test_not_strictly_rising(self):
        self.assertIs(roots_right((-2, 0, 1), [(2, 1), (0, 1), (-2, 1)]), False)
        self.assertIs(roots_right((-2, 0, 1), [(-2, 1), (0, 1), (0, 1), (2, 1)]), False)
        self.assertIs(roots_right((5,), [(0, 1), (0, 1)]), False)
        self.assertIs(roots_right((5,), [(1, 2), (1, 3)]), False)
        self.assertIs(roots_right((5,), [(0, 1), (2, 1), (1, 1), (3, 1)]), False)

    def test_a_root_outside(self):
        self.assertIs(roots_right((-2, 0, 1), [(-1, 1), (0, 1), (2, 1)]), False)
        self.assertIs(roots_right((-2, 0, 1), [(-2, 1), (0, 1), (1, 1)]), False)
        self.assertIs(roots_right((-2, 0, 1), [(0, 1)]), False)

    def test_changes_outside_without_a_root(self):
        self.assertIs(roots_right((2, -2, 1), [(0, 1)]), False)
        self.assertIs(roots_right((2, 2, 1), [(0, 1)]), False)
        self.assertIs(roots_right((2, -2, 1), [(1, 1)]), True)

    def test_two_changes_between_neighbours(self):
        self.assertIs(roots_right((-2, 0, 1), [(-2, 1), (2, 1)]), False)
        self.assertIs(roots_right((2, -3, 1), [(0, 1), (3, 1)]), False)
        self.assertIs(roots_right((2, -3, 1), [(0, 1), (3, 2), (3, 1)]), True)

    def test_no_lists_of_fractions(self):
        good = [(-2, 1), (0, 1), (2, 1)]
        self.assertIs(roots_right((-2, 0, 1), tuple(good)), False)
        for thing in anything() + [(0, 2), (1, 0), (2, -1), [0, 1], (0, 1, 1), (False, 1), (0, True), 0]:
            for place in range(3):
                self.assertIs(roots_right((-2, 0, 1), good[:place] + [thing] + good[place + 1:]), False)
            self.assertIs(roots_right((5,), [thing]), False)
            self.assertIs(roots_right((5,), thing), False)

    def test_against_another_reckoning(self):
        random = source(51)
        answers = {True: 0, False: 0}
        for turn in range(400):
            p = some_poly(random, 3, 1)
            cuts = sorted({told(Fraction(random.randint(-8, 8), random.randint(1, 2))) for cut in range(4)}, key=meant)
            cuts = [(-20, 1)] + cuts + [(20, 1)]
            expected = right_by_another_reckoning(p, cuts)
            self.assertIs(roots_right(p, cuts), expected)
            answers[expected] += 1
        self.assertTrue(answers[True] > 30 and answers[False] > 30)

    def test_what_is_handed_in_stays(self):
        cuts = [(-2, 1), (0, 1), (2, 1)]
        roots_right((-2, 0, 1), cuts)
        self.assertEqual(cuts, [(-2, 1), (0, 1), (2, 1)])


class CutsOf(unittest.TestCase):

    def test_cuts_told_are_right(self):
        for p in free_samples():
            cuts = cuts_of(p)
            self.assertIs(type(cuts), list)
            self.assertIs(roots_right(p, cuts), True)
            self.assertTrue(right_by_another_reckoning(p, cuts))

    def test_nought_and_what_is_not_free_are_refused(self):
        for p in ((), (0, 0, 1), TWICE, multiplied((1, 0, 1), (1, 0, 1))):
            with self.assertRaises(NoFree):
                cuts_of(p)

    def test_very_near_roots(self):
        for p in (near_pair(20, 10 ** 60), near_pair(10, 10 ** 190)):
            self.assertIs(roots_right(p, cuts_of(p)), True)

    def test_a_told_list_is_the_askers_own(self):
        for p in ((5,), (-2, 0, 1)):
            first = cuts_of(p)
            kept = list(first)
            first.append((1, 0))
            first[0] = None
            self.assertEqual(cuts_of(p), kept)


class RootsOf(unittest.TestCase):

    def check(self, p, f):
        numbers = roots_of(p)
        self.assertIs(type(numbers), list)
        for number in numbers:
            self.assertIs(type(number), tuple)
            self.assertEqual(number[0], f)
            lo, hi = meant(number[1]), meant(number[2])
            self.assertEqual((told(lo), told(hi)), number[1:])
            self.assertLess(lo, hi)
            self.assertNotEqual(value_at(f, lo), 0)
            self.assertNotEqual(value_at(f, hi), 0)
            self.assertEqual(turns(seen_within(f, lo, hi)), 1)
        return numbers

    def test_each_real_root_once_and_rising(self):
        for p in list(free_samples())[2:-1]:
            f = made_plain(p)
            numbers = self.check(p, f)
            for place, number in enumerate(numbers):
                self.assertEqual(roots_below(f, meant(number[1])), place)
                self.assertEqual(roots_below(f, meant(number[2])), place + 1)
            far = Fraction(sum(abs(weight) for weight in f))
            self.assertEqual(roots_below(f, far + 1), len(numbers))

    def test_roots_that_are_fractions(self):
        roots = [Fraction(-7, 2), Fraction(-1), Fraction(0), Fraction(1, 3), Fraction(1, 2), Fraction(8), Fraction(GREAT)]
        f = multiplied(*[linear(root) for root in roots])
        numbers = self.check(multiplied((-3,), f, linear(8), linear(0)), f)
        self.assertEqual(len(numbers), len(roots))
        for root, number in zip(roots, numbers):
            self.assertTrue(meant(number[1]) < root < meant(number[2]))

    def test_by_the_free_part(self):
        self.assertEqual(len(self.check(TWICE, (-2, -1, 3))), 2)
        self.assertEqual(len(self.check((0, 0, 0, -5), (0, 1))), 1)
        self.assertEqual(len(self.check(multiplied((4, 0, -2), (4, 0, -2), (1, 0, 1)), (-2, 0, -1, 0, 1))), 2)

    def test_none(self):
        for p in ((5,), (-1,), (1, 0, 1), multiplied((1, 0, 1), (1, 0, 1), (-3,))):
            self.assertEqual(roots_of(p), [])

    def test_nought_is_refused(self):
        with self.assertRaises(NoFree):
            roots_of(())

    def test_a_told_list_is_the_askers_own(self):
        for p in ((5,), (-2, 0, 1)):
            first = roots_of(p)
            kept = list(first)
            first.append(None)
            self.assertEqual(roots_of(p), kept)


if __name__ == "__main__":
    unittest.main()
