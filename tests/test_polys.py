import unittest
from fractions import Fraction

from rootcourt.polys import (degree, derived, is_poly, p_minus, p_plus, p_times, poly, power, put_in, raised, scaled,
                             sign_at, value)
from tests.helper import (added, anything, meant, multiplied, some_fraction, some_poly, some_whole, source, told,
                          trimmed, value_at)

GREAT = 10 ** 80 + 7


def samples(seed, many):
    random = source(seed)
    for turn in range(many):
        figures = random.choice((1, 1, 60))
        one = () if random.random() < 0.1 else some_poly(random, 6, figures)
        other = () if random.random() < 0.1 else some_poly(random, 6, figures)
        yield one, other


class IsPoly(unittest.TestCase):

    def test_polynomials(self):
        for thing in ((), (1,), (-1,), (0, 1), (0, 0, -5), (1, 2, 3), (GREAT, 0, -GREAT)):
            self.assertIs(is_poly(thing), True)

    def test_noughts_at_the_end(self):
        for thing in ((0,), (0, 0), (1, 0), (1, 2, 0), (0, 1, 0, 0)):
            self.assertIs(is_poly(thing), False)

    def test_lists(self):
        for thing in ([], [1], [0, 1], [1, 0]):
            self.assertIs(is_poly(thing), False)

    def test_other_things_as_weights(self):
        for weight in (True, False, None, "1", "", 1.0, (1,), [1], Fraction(1)):
            for thing in ((weight,), (weight, 1), (1, weight), (0, weight, 1), (1, 2, weight)):
                self.assertIs(is_poly(thing), False)

    def test_anything_at_all(self):
        for thing in anything():
            self.assertIs(is_poly(thing), False)


class Made(unittest.TestCase):

    def test_noughts_at_the_end_are_left_off(self):
        self.assertEqual(poly([1, 2, 0, 0]), (1, 2))
        self.assertEqual(poly((1, 2, 0, 0)), (1, 2))
        self.assertEqual(poly([0, 0, 5, 0]), (0, 0, 5))
        self.assertEqual(poly((0, 0, 5)), (0, 0, 5))

    def test_nought(self):
        for weights in ([], (), [0], (0,), [0, 0, 0], (0, 0, 0)):
            self.assertEqual(poly(weights), ())

    def test_what_is_handed_in_stays(self):
        weights = [3, 0, -GREAT, 0, 0]
        found = poly(weights)
        self.assertEqual(weights, [3, 0, -GREAT, 0, 0])
        self.assertIs(type(found), tuple)
        weights[0] = 4
        self.assertEqual(found, (3, 0, -GREAT))

    def test_degree(self):
        self.assertEqual([degree(one) for one in ((), (7,), (0, 1), (1, 2, 3), (0,) * 40 + (1,))], [-1, 0, 1, 2, 40])


class Sums(unittest.TestCase):

    def test_by_their_weights(self):
        self.assertEqual(p_plus((1, 2, 3), (4, 5)), (5, 7, 3))
        self.assertEqual(p_plus((4, 5), (1, 2, 3)), (5, 7, 3))
        self.assertEqual(p_minus((1, 2, 3), (4, 5)), (-3, -3, 3))
        self.assertEqual(p_minus((4, 5), (1, 2, 3)), (3, 3, -3))

    def test_greatest_powers_that_fall_out(self):
        self.assertEqual(p_plus((1, 2, 3), (1, 5, -3)), (2, 7))
        self.assertEqual(p_plus((1, 2, 3), (1, -2, -3)), (2,))
        self.assertEqual(p_plus((1, 2, 3), (-1, -2, -3)), ())
        self.assertEqual(p_minus((1, 2, 3), (1, 5, 3)), (0, -3))
        self.assertEqual(p_minus((1, 2, 3), (0, 2, 3)), (1,))
        self.assertEqual(p_minus((1, 2, GREAT), (1, 2, GREAT)), ())

    def test_nought(self):
        for one in ((), (3,), (1, 2)):
            self.assertEqual(p_plus(one, ()), one)
            self.assertEqual(p_plus((), one), one)
            self.assertEqual(p_minus(one, ()), one)
            self.assertEqual(p_minus((), one), tuple(-weight for weight in one))

    def test_against_another_reckoning(self):
        for one, other in samples(6, 300):
            self.assertEqual(p_plus(one, other), added(one, other))
            self.assertEqual(p_minus(one, other), added(one, [-weight for weight in other]))


class Products(unittest.TestCase):

    def test_by_their_weights(self):
        self.assertEqual(p_times((1, 2), (3, 4)), (3, 10, 8))
        self.assertEqual(p_times((-1, 1), (1, 1)), (-1, 0, 1))
        self.assertEqual(p_times((0, 0, 2), (0, 3)), (0, 0, 0, 6))

    def test_nought(self):
        for one in ((), (3,), (1, 2)):
            self.assertEqual(p_times(one, ()), ())
            self.assertEqual(p_times((), one), ())
            self.assertEqual(scaled(one, 0), ())

    def test_scaled(self):
        self.assertEqual(scaled((1, 0, -2), 3), (3, 0, -6))
        self.assertEqual(scaled((1, 0, -2), -1), (-1, 0, 2))
        self.assertEqual(scaled((1, 0, -2), GREAT), (GREAT, 0, -2 * GREAT))
        self.assertEqual(scaled((), 5), ())

    def test_against_another_reckoning(self):
        random = source(8)
        for one, other in samples(7, 300):
            self.assertEqual(p_times(one, other), multiplied(one, other))
            factor = some_whole(random, 40)
            self.assertEqual(scaled(one, factor), multiplied(one, (factor,)))


class Powers(unittest.TestCase):

    def test_by_their_weights(self):
        self.assertEqual(power((1, 1), 4), (1, 4, 6, 4, 1))
        self.assertEqual(power((-2,), 5), (-32,))
        self.assertEqual(power((0, 1), 7), (0,) * 7 + (1,))
        self.assertEqual(power((1, 2), 1), (1, 2))

    def test_the_0th(self):
        for one in ((), (1,), (-5,), (1, 2, 3)):
            self.assertEqual(power(one, 0), (1,))

    def test_of_nought(self):
        for many in (1, 2, 5, GREAT):
            self.assertEqual(power((), many), ())

    def test_what_can_be_held_is_told_however_many(self):
        self.assertEqual(power((1,), GREAT), (1,))
        self.assertEqual(power((-1,), GREAT), (-1,))
        self.assertEqual(power((-1,), GREAT + 1), (1,))

    def test_against_products(self):
        for one, other in samples(9, 40):
            for many in range(8):
                self.assertEqual(power(one, many), multiplied(*[one] * many))

    def test_raised(self):
        self.assertEqual(raised((1, 2), 0), (1, 2))
        self.assertEqual(raised((1, 2), 3), (0, 0, 0, 1, 2))
        self.assertEqual(raised((-4,), 2), (0, 0, -4))

    def test_nought_raised(self):
        for many in (0, 1, 7, GREAT):
            self.assertEqual(raised((), many), ())


class Derived(unittest.TestCase):

    def test_by_their_weights(self):
        self.assertEqual(derived((5, 4, 3, 2)), (4, 6, 6))
        self.assertEqual(derived((0, 0, 0, 1)), (0, 0, 3))
        self.assertEqual(derived((1, GREAT)), (GREAT,))

    def test_constants(self):
        self.assertEqual(derived(()), ())
        self.assertEqual(derived((5,)), ())
        self.assertEqual(derived((-GREAT,)), ())

    def test_of_a_product(self):
        for one, other in samples(10, 100):
            self.assertEqual(derived(multiplied(one, other)),
                             added(multiplied(derived(one), other), multiplied(one, derived(other))))


class PutIn(unittest.TestCase):

    def test_the_second_stands_in_the_unknowns_place(self):
        self.assertEqual(put_in((-2, 0, 1), (1, 1)), (-1, 2, 1))
        self.assertEqual(put_in((1, 1), (-2, 0, 1)), (-1, 0, 1))
        self.assertEqual(put_in((0, 0, 1), (0, 0, 0, 1)), (0,) * 6 + (1,))

    def test_constants_and_nought(self):
        self.assertEqual(put_in((5, 1, 2), (3,)), (26,))
        self.assertEqual(put_in((-3, 1), (3,)), ())
        self.assertEqual(put_in((5, 1, 2), ()), (5,))
        self.assertEqual(put_in((0, 1, 2), ()), ())
        self.assertEqual(put_in((5,), (1, 2)), (5,))
        self.assertEqual(put_in((), (1, 2)), ())
        self.assertEqual(put_in((), ()), ())
        self.assertEqual(put_in((5,), ()), (5,))

    def test_against_sums_of_powers(self):
        for one, other in samples(11, 100):
            expected = ()
            for place, weight in enumerate(one):
                expected = added(expected, multiplied((weight,), *[other] * place))
            self.assertEqual(put_in(one, other), expected)


class Values(unittest.TestCase):

    def test_small_ones(self):
        self.assertEqual(value((-2, 0, 1), (3, 2)), (1, 4))
        self.assertEqual(value((1, 2), (-1, 2)), (0, 1))
        self.assertEqual(value((1, 2, 4), (1, 2)), (3, 1))
        self.assertEqual(value((7, 1), (0, 1)), (7, 1))

    def test_constants_and_nought(self):
        for point in ((0, 1), (5, 3), (-GREAT, 2), (1, GREAT)):
            self.assertEqual(value((), point), (0, 1))
            self.assertEqual(value((-4,), point), (-4, 1))
            self.assertEqual(sign_at((), point), 0)
            self.assertEqual(sign_at((-4,), point), -1)
            self.assertEqual(sign_at((4,), point), 1)

    def test_at_a_root(self):
        one = multiplied((-3, 2), (5, 7), (-GREAT, GREAT - 1), (1, 0, 1))
        for root in ((3, 2), (-5, 7), (GREAT, GREAT - 1)):
            self.assertEqual(value(one, root), (0, 1))
            self.assertEqual(sign_at(one, root), 0)

    def test_signs_close_by_a_root(self):
        self.assertEqual(sign_at((-1, GREAT), (1, GREAT + 1)), -1)
        self.assertEqual(sign_at((-1, GREAT), (1, GREAT)), 0)
        self.assertEqual(sign_at((-1, GREAT), (1, GREAT - 1)), 1)

    def test_against_pythons_own(self):
        random = source(12)
        for one, other in samples(13, 200):
            for figures in (1, 30, 400):
                point = some_fraction(random, figures)
                expected = value_at(one, point)
                self.assertEqual(value(one, told(point)), told(expected))
                self.assertEqual(sign_at(one, told(point)), (expected > 0) - (expected < 0))

    def test_of_the_greatest_size_promised(self):
        random = source(14)
        one = tuple(some_whole(random, 399) for place in range(20)) + (1,)
        point = some_fraction(random, 399)
        self.assertEqual(meant(value(one, told(point))), value_at(one, point))
        self.assertEqual(degree(put_in(one, (1, 0, 1))), 40)


class Kept(unittest.TestCase):

    def test_everything_told_is_a_polynomial(self):
        for one, other in samples(15, 60):
            for found in (p_plus(one, other), p_minus(one, other), p_times(one, other), scaled(one, -3), power(one, 3),
                          raised(one, 2), derived(one), put_in(one, other)):
                self.assertTrue(is_poly(found))
                self.assertEqual(found, trimmed(found))


if __name__ == "__main__":
    unittest.main()
