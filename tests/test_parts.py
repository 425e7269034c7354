import unittest
from math import gcd

from rootcourt.errors import NoPart
from rootcourt.parts import content, parted, plain, shared, shared_paper, shared_right, whole_part
from rootcourt.polys import is_poly
from tests.helper import (added, anything, common_part, divided, made_plain, multiplied, some_poly, some_whole, source,
                          spoiled, trimmed)

GREAT = 10 ** 75 + 1


def samples(seed, many, most=6):
    """Pairs with a common part or without, some with noughts among their weights, some nought."""
    random = source(seed)
    for turn in range(many):
        figures = random.choice((1, 1, 2, 50))
        part = some_poly(random, 3, figures)
        pair = []
        for side in range(2):
            one = multiplied(some_poly(random, most, figures), part)
            if random.random() < 0.3:
                one = trimmed(weight if random.random() < 0.5 else 0 for weight in one)
            pair.append(one if random.random() > 0.05 else ())
        yield tuple(pair)


class Plain(unittest.TestCase):

    def test_content(self):
        self.assertEqual(content(()), 0)
        self.assertEqual(content((6,)), 6)
        self.assertEqual(content((-6,)), 6)
        self.assertEqual(content((4, 0, -6)), 2)
        self.assertEqual(content((3, 5)), 1)
        self.assertEqual(content((2 * GREAT, 0, -3 * GREAT)), GREAT)

    def test_plain(self):
        self.assertEqual(plain(()), ())
        self.assertEqual(plain((6,)), (1,))
        self.assertEqual(plain((-6,)), (1,))
        self.assertEqual(plain((1,)), (1,))
        self.assertEqual(plain((4, 0, -6)), (-2, 0, 3))
        self.assertEqual(plain((-4, 0, 6)), (-2, 0, 3))
        self.assertEqual(plain((3, 5)), (3, 5))
        self.assertEqual(plain((3, -5)), (-3, 5))
        self.assertEqual(plain((2 * GREAT, 0, -3 * GREAT)), (-2, 0, 3))

    def test_against_another_reckoning(self):
        random = source(20)
        for turn in range(100):
            one = multiplied(some_poly(random, 5, 3), (some_whole(random, 2) or 1,))
            self.assertEqual(plain(one), made_plain(one))
            self.assertEqual(content(one), gcd(*one))


class Parted(unittest.TestCase):

    def check(self, one, other):
        found = parted(one, other)
        self.assertIs(type(found), tuple)
        scale, quotient, rest = found
        self.assertGreaterEqual(scale, 1)
        self.assertTrue(is_poly(quotient) and is_poly(rest))
        self.assertEqual(multiplied((scale,), one), added(multiplied(quotient, other), rest))
        self.assertLess(len(rest), len(other))
        self.assertEqual(gcd(scale, *quotient, *rest), 1)
        return found

    def test_small_ones(self):
        self.assertEqual(parted((-1, 0, 1), (-1, 1)), (1, (1, 1), ()))
        self.assertEqual(parted((1, 0, 1), (1, 2)), (4, (-1, 2), (5,)))
        self.assertEqual(parted((0, 0, 4), (0, 2)), (1, (0, 2), ()))
        self.assertEqual(parted((1, 0, 4), (0, 2)), (1, (0, 2), (1,)))
        self.assertEqual(parted((1, 0, 1), (0, -2)), (2, (0, -1), (2,)))

    def test_by_a_constant_the_rest_is_nought(self):
        self.assertEqual(parted((4, 6), (2,)), (1, (2, 3), ()))
        self.assertEqual(parted((4, 6), (4,)), (2, (2, 3), ()))
        self.assertEqual(parted((4, 6), (-5,)), (5, (-4, -6), ()))
        self.assertEqual(parted((4,), (6,)), (3, (2,), ()))
        self.assertEqual(parted((4, 6), (1,)), (1, (4, 6), ()))

    def test_of_lesser_degree(self):
        self.assertEqual(parted((4, 6), (1, 2, 3)), (1, (), (4, 6)))
        self.assertEqual(parted((4,), (0, 2)), (1, (), (4,)))
        self.assertEqual(parted((), (0, 2)), (1, (), ()))
        self.assertEqual(parted((), (7,)), (1, (), ()))

    def test_by_nought_it_is_refused(self):
        for one in ((), (1,), (1, 2, 3)):
            with self.assertRaises(NoPart):
                parted(one, ())
            with self.assertRaises(NoPart):
                whole_part(one, ())

    def test_the_scale_is_the_least(self):
        random = source(21)
        for turn in range(300):
            one = some_poly(random, 7, random.choice((1, 2, 60)))
            other = some_poly(random, 4, random.choice((1, 2, 60)))
            self.check(one, other)
            self.check(multiplied(one, other), other)
            self.check(multiplied((12,), one), multiplied((18,), other))
            self.check(one, trimmed(weight * 6 for weight in one))

    def test_quotient_and_rest_against_fractions(self):
        random = source(22)
        for turn in range(100):
            one, other = some_poly(random, 7, 2), some_poly(random, 4, 2)
            scale, quotient, rest = self.check(one, other)
            expected = divided(one, other)
            self.assertEqual(tuple(weight * scale for weight in expected[0]), quotient)
            self.assertEqual(tuple(weight * scale for weight in expected[1]), rest)

    def test_of_the_greatest_size_promised(self):
        random = source(23)
        one = tuple(some_whole(random, 399) for place in range(20)) + (1,)
        self.check(one, tuple(some_whole(random, 399) for place in range(7)) + (3,))


class WholePart(unittest.TestCase):

    def test_where_there_is_one(self):
        self.assertEqual(whole_part((-1, 0, 1), (1, 1)), (-1, 1))
        self.assertEqual(whole_part((4, 6), (2,)), (2, 3))
        self.assertEqual(whole_part((4, 6), (-2, -3)), (-2,))
        self.assertEqual(whole_part((), (1, 2)), ())
        self.assertEqual(whole_part((), (5,)), ())
        self.assertEqual(whole_part((6,), (-3,)), (-2,))

    def test_where_a_rest_is_left(self):
        self.assertIsNone(whole_part((1, 0, 1), (1, 1)))
        self.assertIsNone(whole_part((1, 2), (1, 2, 3)))
        self.assertIsNone(whole_part((1,), (0, 1)))

    def test_where_the_weights_are_not_whole(self):
        self.assertIsNone(whole_part((1, 1), (2, 2)))
        self.assertIsNone(whole_part((1, 1), (2,)))
        self.assertIsNone(whole_part((4, 5), (2,)))
        self.assertIsNone(whole_part((-1, 0, 1), (2, 2)))
        self.assertIsNone(whole_part((3,), (2,)))

    def test_against_products(self):
        random = source(24)
        for turn in range(200):
            one, other = some_poly(random, 5, random.choice((1, 60))), some_poly(random, 5, random.choice((1, 60)))
            product = multiplied(one, other)
            self.assertEqual(whole_part(product, other), one)
            if len(other) > 1:
                self.assertIsNone(whole_part(added(product, (1,)), other))
            self.assertIsNone(whole_part(product, multiplied(other, (2 * one[-1],))))


class Shared(unittest.TestCase):

    def test_noughts_and_constants(self):
        self.assertEqual(shared((), ()), ())
        self.assertEqual(shared((), (-4, 6)), (-2, 3))
        self.assertEqual(shared((4, -6), ()), (-2, 3))
        self.assertEqual(shared((), (-4,)), (1,))
        self.assertEqual(shared((4,), (6,)), (1,))
        self.assertEqual(shared((4,), (0, 8)), (1,))
        self.assertEqual(shared((0, 8), (4,)), (1,))

    def test_parts_that_come_more_than_once(self):
        one = multiplied((-1, 1), (-1, 1), (-1, 1), (1, 2), (1, 0, 1))
        other = multiplied((-1, 1), (-1, 1), (1, 2), (1, 2), (3, 1))
        self.assertEqual(shared(one, other), multiplied((-1, 1), (-1, 1), (1, 2)))
        self.assertEqual(shared(other, one), multiplied((-1, 1), (-1, 1), (1, 2)))

    def test_remainders_by_a_prime_mislead_nobody(self):
        prime = 2 ** 61 - 1
        part = (1, 3, prime)
        for one, other in (((2, 1), (3, 1)), ((2, prime), (3, 1)), ((2, 1), (3, prime)), ((prime,), (5, 1)), ((1,), (1,))):
            self.assertEqual(shared(multiplied(part, one), multiplied(part, other)), part)
            self.assertEqual(shared(one, other), (1,))
        self.assertEqual(shared((0, 1), (prime, 1)), (1,))
        self.assertEqual(shared((prime, prime), (prime, 2 * prime)), (1,))
        self.assertEqual(shared((prime, prime), (-prime, 0, prime)), (1, 1))
        self.assertEqual(shared((1, prime), (1, prime, prime)), (1,))
        self.assertEqual(shared((prime,), (1, 1)), (1,))

    def test_the_part_is_plain(self):
        self.assertEqual(shared((-6, 0, 6), (-8, 8)), (-1, 1))
        self.assertEqual(shared((6, 0, -6), (8, -8)), (-1, 1))
        self.assertEqual(shared((2, 4), (2, 4)), (1, 2))

    def test_great_weights(self):
        part = (GREAT, -3, GREAT + 2)
        one, other = multiplied(part, (GREAT + 5, 2)), multiplied(part, (1, GREAT, GREAT))
        self.assertEqual(shared(one, other), part)

    def test_known_to_make_weights_grow(self):
        one, other = (-5, 2, 8, -3, -3, 0, 1, 0, 1), (21, -9, -4, 0, 5, 0, 3)
        self.assertEqual(shared(one, other), (1,))
        self.assertTrue(shared_right(one, other, shared_paper(one, other)))

    def test_against_euclid_with_fractions(self):
        for one, other in samples(25, 300):
            self.assertEqual(shared(one, other), common_part(one, other))


class SharedPaper(unittest.TestCase):

    def check(self, one, other):
        paper = shared_paper(one, other)
        self.assertIs(type(paper), tuple)
        g, u, v, a, b, c = paper
        self.assertTrue(all(is_poly(thing) for thing in (g, u, v, a, b)))
        self.assertIs(type(c), int)
        self.assertNotEqual(c, 0)
        self.assertEqual(g, common_part(one, other))
        self.assertEqual(multiplied(u, g), one)
        self.assertEqual(multiplied(v, g), other)
        self.assertEqual(added(multiplied(a, one), multiplied(b, other)), multiplied((c,), g))
        self.assertIs(shared_right(one, other, paper), True)
        return paper

    def test_noughts_and_constants(self):
        for one in ((), (4,), (-6,), (1,), (0, 2), (1, -2), (3, 0, -3)):
            for other in ((), (4,), (-6,), (1,), (0, 2), (1, -2), (3, 0, -3)):
                self.check(one, other)

    def test_papers_told_are_right(self):
        for one, other in samples(26, 150):
            self.check(one, other)

    def test_great_weights(self):
        random = source(27)
        one = tuple(some_whole(random, 400) for place in range(8)) + (-1,)
        other = tuple(some_whole(random, 400) for place in range(6)) + (5,)
        self.check(one, other)
        self.check(multiplied(one, (GREAT, 1)), multiplied(other, (GREAT, 1)))


class SharedRight(unittest.TestCase):

    pairs = (((-1, 0, 1), (-1, 1)), ((0, 2), (1,)), ((4, 6), (6, 9, 0, 3)), ((2, 3, 1), (3, 4, 1)), ((-2, 0, 1), (7, 1)))

    def test_made_over_in_a_b_and_c(self):
        for one, other in self.pairs:
            g, u, v, a, b, c = shared_paper(one, other)
            for factor in (1, -1, 2, GREAT):
                for more in ((), (1,), (-3, 0, GREAT)):
                    new_a = multiplied((factor,), added(a, multiplied(more, v)))
                    new_b = multiplied((factor,), added(b, multiplied(more, u, (-1,))))
                    self.assertIs(shared_right(one, other, (g, u, v, new_a, new_b, factor * c)), True)

    def test_written_by_hand(self):
        self.assertIs(shared_right((-1, 0, 1), (-1, 1), ((-1, 1), (1, 1), (1,), (), (1,), 1)), True)
        self.assertIs(shared_right((-1, 0, 1), (-1, 1), ((-1, 1), (1, 1), (1,), (1,), (0, -1), 1)), True)
        self.assertIs(shared_right((-1, 0, 1), (-1, 1), ((1,), (-1, 0, 1), (-1, 1), (), (), 0)), False)
        self.assertIs(shared_right((-1, 0, 1), (-1, 1), ((1,), (-1, 0, 1), (-1, 1), (), (), 1)), False)

    def test_one_thing_not_so(self):
        for one, other in self.pairs:
            for paper in spoiled(shared_paper(one, other)):
                self.assertIs(shared_right(one, other, paper), False, paper)

    def test_c_nought_or_a_truth(self):
        self.assertIs(shared_right((0, 1), (1,), ((1,), (0, 1), (1,), (), (1,), 1)), True)
        self.assertIs(shared_right((0, 1), (1,), ((1,), (0, 1), (1,), (), (1,), True)), False)
        self.assertIs(shared_right((0, 1), (1,), ((1,), (0, 1), (1,), (), (), 0)), False)
        self.assertIs(shared_right((0, 1), (1,), ((1,), (0, 1), (1,), (), (), False)), False)
        self.assertIs(shared_right((0, 1), (1,), ((1,), (0, 1), (1,), (), (True,), 1)), False)

    def test_g_not_plain(self):
        self.assertIs(shared_right((2, 4), (4, 6), ((1,), (2, 4), (4, 6), (-3,), (2,), 2)), True)
        self.assertIs(shared_right((2, 4), (4, 6), ((2,), (1, 2), (2, 3), (-3,), (2,), 1)), False)
        self.assertIs(shared_right((2, 4), (4, 6), ((-1,), (-2, -4), (-4, -6), (-3,), (2,), -2)), False)

    def test_of_nought_and_nought(self):
        self.assertIs(shared_right((), (), ((), (1, 2), (), (5,), (0, 3), -4)), True)
        self.assertIs(shared_right((), (), ((), (1, 2), (), (5,), (0, 3), 0)), False)
        self.assertIs(shared_right((), (), ((), (1, 0), (), (5,), (0, 3), 1)), False)
        self.assertIs(shared_right((), (), ((1,), (), (), (5,), (0, 3), 1)), False)

    def test_a_paper_of_others(self):
        paper = shared_paper((2, 3, 1), (3, 4, 1))
        self.assertIs(shared_right((3, 4, 1), (2, 3, 1), paper), False)
        self.assertIs(shared_right((4, 6, 2), (3, 4, 1), paper), False)
        self.assertIs(shared_right((), (), paper), False)

    def test_anything_at_all(self):
        for one, other in self.pairs + (((), ()), ((), (1, 2)), ((3,), (6,))):
            for paper in anything():
                self.assertIs(shared_right(one, other, paper), False)


if __name__ == "__main__":
    unittest.main()
