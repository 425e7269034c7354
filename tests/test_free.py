import unittest

from rootcourt.errors import NoFree
from rootcourt.free import free_paper, free_part, free_right, is_free, layers
from rootcourt.polys import is_poly
from tests.helper import (added, anything, common_part, made_plain, multiplied, slope, some_poly, some_whole, source,
                          spoiled)

GREAT = 10 ** 75 + 1
TWICE = multiplied((-2,), (-1, 1), (-1, 1), (2, 3))


def repeated(one, many):
    return multiplied(*[one] * many)


def parts_with_powers(seed, many):
    """Lists of (plain free part, power), the parts without a common part, and a whole number."""
    random = source(seed)
    for turn in range(many):
        found = []
        for power in sorted(random.sample(range(1, 6), random.randint(1, 3))):
            part = made_plain(some_poly(random, 2, random.choice((1, 1, 30))))
            others = [part] + [slope(part)]
            alone = all(len(common_part(part, other)) == 1 for other, times in found)
            if len(part) > 1 and alone and len(common_part(*others)) == 1:
                found.append((part, power))
        yield found, some_whole(random, 2) or 1


def product_of(found, unit):
    return multiplied((unit,), *[repeated(part, power) for part, power in found])


class IsFree(unittest.TestCase):

    def test_nought_and_constants(self):
        self.assertIs(is_free(()), False)
        for constant in (1, -1, 4, 12, -GREAT):
            self.assertIs(is_free((constant,)), True)

    def test_with_each_root_once(self):
        for one in ((0, 1), (-2, 0, 1), (1, 0, 1), (4, 8), (-8, 0, 4), (0, -1, 0, 1), (-GREAT, 0, 0, 3)):
            self.assertIs(is_free(one), True)

    def test_with_a_root_more_than_once(self):
        for one in ((0, 0, 1), (1, 2, 1), TWICE, repeated((1, 0, 1), 2), repeated((-GREAT, 3), 2)):
            self.assertIs(is_free(one), False)


class FreePart(unittest.TestCase):

    def test_of_constants(self):
        for constant in (1, -1, 6, -GREAT):
            self.assertEqual(free_part((constant,)), (1,))

    def test_of_nought_it_is_refused(self):
        with self.assertRaises(NoFree):
            free_part(())
        with self.assertRaises(NoFree):
            free_paper(())

    def test_small_ones(self):
        self.assertEqual(free_part(TWICE), (-2, -1, 3))
        self.assertEqual(free_part((0, 0, 0, -5)), (0, 1))
        self.assertEqual(free_part((4, 0, -2)), (-2, 0, 1))
        self.assertEqual(free_part(repeated((1, 0, 1), 3)), (1, 0, 1))

    def test_against_the_parts(self):
        for found, unit in parts_with_powers(30, 100):
            self.assertEqual(free_part(product_of(found, unit)), multiplied(*[part for part, power in found]))


class FreePaper(unittest.TestCase):

    def check(self, one):
        paper = free_paper(one)
        self.assertIs(type(paper), tuple)
        f, u, c, w, a, b, e = paper
        self.assertTrue(all(is_poly(thing) for thing in (f, u, w, a, b)))
        self.assertTrue(type(c) is int and type(e) is int and c != 0 and e != 0)
        self.assertEqual(f, made_plain(f))
        self.assertEqual(multiplied(u, f), one)
        self.assertEqual(multiplied((c,), repeated(f, len(one) - 1)), multiplied(w, one))
        self.assertEqual(added(multiplied(a, f), multiplied(b, slope(f))), (e,))
        self.assertIs(free_right(one, paper), True)

    def test_constants(self):
        for constant in (1, -1, 6, -GREAT):
            self.check((constant,))

    def test_small_ones(self):
        for one in ((0, 1), (3, -6), (0, 0, 1), (0, 0, 0, -5), TWICE, (-2, 0, 1), (4, 0, -2), repeated((1, 0, 1), 3)):
            self.check(one)

    def test_of_many_powers(self):
        for found, unit in parts_with_powers(31, 60):
            self.check(product_of(found, unit))

    def test_great_weights(self):
        random = source(32)
        self.check(tuple(some_whole(random, 400) for place in range(6)) + (-3,))
        self.check(repeated((GREAT, 5, -2), 3))


class FreeRight(unittest.TestCase):

    samples = ((0, 0, 0, -5), TWICE, (-2, 0, 1), (3, -6), (0, 1), (1, 1, 1, 1))

    def test_made_over(self):
        for one in self.samples + ((7,), (-1,)):
            f, u, c, w, a, b, e = free_paper(one)
            for factor in (1, -1, 3, GREAT):
                for more in ((), (1,), (-3, 0, GREAT)):
                    new_w = multiplied((factor,), w)
                    new_a = multiplied((factor,), added(a, multiplied(more, slope(f))))
                    new_b = multiplied((factor,), added(b, multiplied(more, f, (-1,))))
                    paper = (f, u, factor * c, new_w, new_a, new_b, factor * e)
                    self.assertIs(free_right(one, paper), True)

    def test_one_thing_not_so(self):
        for one in self.samples:
            for paper in spoiled(free_paper(one)):
                self.assertIs(free_right(one, paper), False, paper)

    def test_the_power_is_the_polynomials_degree(self):
        # x^2 with f = x: the 2nd power, though the 1st of f's own degree would not do, nor the 3rd.
        self.assertIs(free_right((0, 0, 1), ((0, 1), (0, 1), 1, (1,), (), (1,), 1)), True)
        self.assertIs(free_right((0, 0, 1), ((0, 1), (0, 1), 1, (0, 1), (), (1,), 1)), False)
        self.assertIs(free_right((0, 0, 0, 0, 1), ((0, 1), (0, 0, 0, 1), 1, (1,), (), (1,), 1)), True)
        self.assertIs(free_right((-1, 0, 1), ((-1, 0, 1), (1,), 1, (-1, 0, 1), (-2,), (0, 1), 2)), True)
        self.assertIs(free_right((-1, 0, 1), ((-1, 0, 1), (1,), 1, (1,), (-2,), (0, 1), 2)), False)

    def test_noughts_and_truths_for_numbers(self):
        self.assertIs(free_right((0, 1), ((0, 1), (1,), 1, (1,), (), (1,), 1)), True)
        self.assertIs(free_right((0, 1), ((0, 1), (1,), True, (1,), (), (1,), 1)), False)
        self.assertIs(free_right((0, 1), ((0, 1), (1,), 1, (1,), (), (1,), True)), False)
        self.assertIs(free_right((0, 1), ((0, 1), (1,), 0, (), (), (1,), 1)), False)
        self.assertIs(free_right((0, 1), ((0, 1), (1,), 1, (1,), (), (), 0)), False)
        self.assertIs(free_right((0, 1), ((0, 1), (1,), False, (), (), (1,), 1)), False)

    def test_f_that_is_not_free_or_lacks_a_root(self):
        self.assertIs(free_right((0, 0, 1), ((0, 0, 1), (1,), 1, (0, 0, 1), (), (), 0)), False)
        self.assertIs(free_right((0, 0, 1), ((0, 0, 1), (1,), 1, (0, 0, 1), (), (), 1)), False)
        self.assertIs(free_right((0, -1, 1), ((0, 1), (-1, 1), 1, (), (), (1,), 1)), False)
        self.assertIs(free_right((0, -1, 1), ((0, 1), (-1, 1), 0, (), (), (1,), 1)), False)
        self.assertIs(free_right((0, 1), ((1,), (0, 1), 0, (), (1,), (), 1)), False)
        self.assertIs(free_right((0, 1), ((1,), (0, 1), 1, (), (1,), (), 1)), False)

    def test_f_not_plain(self):
        self.assertIs(free_right((2, 2), ((1, 1), (2,), 2, (1,), (), (1,), 1)), True)
        self.assertIs(free_right((2, 2), ((2, 2), (1,), 1, (1,), (), (1,), 2)), False)
        self.assertIs(free_right((2, 2), ((-1, -1), (-2,), -2, (1,), (), (1,), -1)), False)
        self.assertIs(free_right((4,), ((1,), (4,), 4, (1,), (1,), (), 1)), True)
        self.assertIs(free_right((4,), ((2,), (2,), 4, (1,), (1,), (), 2)), False)

    def test_for_nought_none_is_right(self):
        for paper in (((), (), 1, (), (), (), 1), ((1,), (), 1, (), (1,), (), 1), ((0, 1), (), 1, (1,), (), (1,), 1),
                      ((), (1,), 1, (1,), (1,), (1,), 1), ((1,), (), 1, (1,), (1,), (), 1)):
            self.assertIs(free_right((), paper), False)
        for paper in anything() + [free_paper(one) for one in self.samples]:
            self.assertIs(free_right((), paper), False)

    def test_a_paper_of_another(self):
        for one in self.samples:
            for other in self.samples:
                self.assertIs(free_right(one, free_paper(other)), one == other)

    def test_anything_at_all(self):
        for one in self.samples + ((5,),):
            for paper in anything():
                self.assertIs(free_right(one, paper), False)


class Layers(unittest.TestCase):

    def test_constants(self):
        for constant in (1, -1, 6, -GREAT):
            self.assertEqual(layers((constant,)), [])

    def test_nought_is_refused(self):
        with self.assertRaises(NoFree):
            layers(())

    def test_small_ones(self):
        self.assertEqual(layers(TWICE), [((2, 3), 1), ((-1, 1), 2)])
        self.assertEqual(layers((0, 0, 0, -5)), [((0, 1), 3)])
        self.assertEqual(layers((4, 0, -2)), [((-2, 0, 1), 1)])

    def test_several_with_gaps_between(self):
        one = multiplied((-6,), repeated((0, 1), 7), repeated((1, 0, 1), 4), (-1, 2), (-2, 0, 1))
        self.assertEqual(layers(one), [(multiplied((-1, 2), (-2, 0, 1)), 1), ((1, 0, 1), 4), ((0, 1), 7)])
        self.assertEqual(layers(repeated((-GREAT, 2), 5)), [((-GREAT, 2), 5)])
        self.assertEqual(layers(repeated((1, 1), 20)), [((1, 1), 20)])

    def test_against_the_parts(self):
        for found, unit in parts_with_powers(33, 100):
            self.assertEqual(layers(product_of(found, unit)), found)

    def test_a_told_list_is_the_askers_own(self):
        told = layers(TWICE)
        told.append("more")
        told[0] = None
        self.assertEqual(layers(TWICE), [((2, 3), 1), ((-1, 1), 2)])


if __name__ == "__main__":
    unittest.main()
