import unittest
from math import isqrt

from rootcourt.modular import m_parted, single
from rootcourt.split import free_by, is_prime, parts_by, splits_by
from tests.helper import multiplied, slope, source
from tests.test_modular import GREAT_PRIME, all_by, remainders, some_by


def single_ones(size, t):
    """Every polynomial by t of just this degree with the last weight 1."""
    return [one for one in all_by(size, t) if len(one) == size + 1 and one[-1] == 1]


def splits_by_search(one, t):
    for size in range(1, (len(one) - 1) // 2 + 1):
        for part in single_ones(size, t):
            if m_parted(one, part, t)[1] == ():
                return True
    return False


def unsplit(size, t):
    return [one for one in single_ones(size, t) if not splits_by_search(one, t)]


def by_order(parts):
    return sorted(parts, key=lambda part: (len(part), part))


def product_by(parts, t):
    return remainders(multiplied(*parts), t)


def no_square(t):
    """The least number that is no square by a prime above 2."""
    return next(number for number in range(2, t) if pow(number, (t - 1) // 2, t) == t - 1)


class Primes(unittest.TestCase):

    def test_up_to_some_thousand(self):
        for number in range(-5, 5000):
            expected = number > 1 and all(number % lesser for lesser in range(2, isqrt(max(number, 0)) + 1))
            self.assertIs(is_prime(number), expected)

    def test_written_ones(self):
        for number in (2, 3, 5, 997, 1009, 999983, 999979):
            self.assertIs(is_prime(number), True)
        for number in (-7, -2, 0, 1, 4, 9, 961, 999, 10 ** 6, 999999, 997 * 997, 991 * 997, -10 ** 40):
            self.assertIs(is_prime(number), False)


class Splitting(unittest.TestCase):

    def test_all_small_ones(self):
        for t, most in ((2, 6), (3, 4), (5, 2)):
            for one in all_by(most, t):
                if len(one) > 1:
                    self.assertIs(splits_by(one, t), splits_by_search(one, t), (one, t))

    def test_degree_one_never_splits(self):
        for t in (2, 3, 997, GREAT_PRIME):
            for one in ((0, 1), (1, 1), (t - 1, t - 1)):
                self.assertIs(splits_by(one, t), False)

    def test_squares_split(self):
        for t in (2, 3, 997, GREAT_PRIME):
            for part in ((0, 1), (1, 1), (1, 1, 1), (1, 0, 1), (1, 0, 0, 1, 1)):
                self.assertIs(splits_by(product_by([part, part], t), t), True)
                self.assertIs(splits_by(product_by([part, part, part], t), t), True)

    def test_a_greater_prime(self):
        t = 997
        odd = no_square(t)
        self.assertIs(splits_by((t - odd, 0, 1), t), False)
        self.assertIs(splits_by((t - odd * odd, 0, 1), t), True)
        self.assertIs(splits_by(product_by([(t - odd, 0, 1), (t - 4 * odd, 0, 1)], t), t), True)
        self.assertIs(splits_by(product_by([(t - odd, 0, 1), (3, 5)], t), t), True)

    def test_a_great_prime_is_not_counted_up_to(self):
        t = GREAT_PRIME
        self.assertIs(splits_by((t - 4, 0, 1), t), True)
        # It leaves 7 by 8: so 2 is a square, and -1 and -2 are none.
        self.assertIs(splits_by((1, 0, 1), t), False)
        self.assertIs(splits_by((t - 2, 0, 1), t), True)
        self.assertIs(splits_by((2, 0, 1), t), False)
        self.assertIs(splits_by(product_by([(2, 0, 1), (1, 0, 1)], t), t), True)

    def test_a_last_weight_that_is_not_one(self):
        self.assertIs(splits_by((2, 0, 2), 3), False)
        self.assertIs(splits_by((4, 0, 2), 5), False)
        self.assertIs(splits_by((2, 0, 3), 5), True)

    def test_the_ones_that_split_by_every_prime(self):
        for one in ((1, 0, 0, 0, 1), (1, 0, -10, 0, 1)):
            for t in (2, 3, 5, 7, 11, 13, 17, 101, 997, 2 ** 61 - 1):
                self.assertIs(splits_by(remainders(one, t), t), True)


class FreeOnes(unittest.TestCase):

    def test_all_small_ones(self):
        for t, most in ((2, 4), (3, 3)):
            parts = [part for size in (1, 2) for part in unsplit(size, t)]
            for one in all_by(most, t):
                expected = one != () and not any(m_parted(one, product_by([part, part], t), t)[1] == ()
                                                 for part in parts)
                self.assertIs(free_by(one, t), expected, (one, t))

    def test_written_ones(self):
        self.assertIs(free_by((), 5), False)
        self.assertIs(free_by((3,), 5), True)
        self.assertIs(free_by((1, 0, 1), 2), False)
        self.assertIs(free_by((1, 0, 1), 3), True)
        self.assertIs(free_by((0, 0, 0, 1), 3), False)
        self.assertIs(free_by((1, 1, 0, 2), 3), True)
        self.assertIs(free_by((2, 0, 1, 0, 1), 997), True)

    def test_where_the_derivative_is_nought(self):
        self.assertEqual(remainders(slope((1, 0, 0, 2)), 3), ())
        self.assertIs(free_by((1, 0, 0, 2), 3), False)


class Parts(unittest.TestCase):

    def check(self, parts, last, t):
        """That of the product of these, which are single and don't split, times a number just these are told."""
        one = remainders([weight * last for weight in multiplied(*parts)], t)
        found = parts_by(one, t)
        self.assertIs(type(found), list)
        self.assertEqual(found, by_order(parts))

    def test_all_small_ones(self):
        for t, most in ((2, 7), (3, 4), (5, 3)):
            for one in all_by(most, t):
                if len(one) > 1 and free_by(one, t):
                    found = parts_by(one, t)
                    self.assertEqual(found, by_order(found))
                    self.assertEqual(product_by(found, t), single(one, t))
                    for part in found:
                        self.assertTrue(len(part) > 1 and part[-1] == 1 and not splits_by_search(part, t))

    def test_one_part_alone(self):
        for t, size in ((2, 6), (3, 3), (7, 2)):
            for part in unsplit(size, t)[:20]:
                self.check([part], t - 1, t)
        self.check([(997 - no_square(997), 0, 1)], 5, 997)
        self.check([(3, 1)], 1, 997)
        self.check([(0, 1)], 2, 3)

    def test_all_of_degree_one(self):
        self.check([(0, 1), (1, 1)], 1, 2)
        self.check([(0, 1), (1, 1), (2, 1)], 2, 3)
        self.check([(root, 1) for root in range(13)], 7, 13)
        self.check([(root, 1) for root in range(0, 997, 50)], 996, 997)
        self.check([(root, 1) for root in range(977, 997)], 3, 997)

    def test_several_of_one_degree(self):
        for t in (2, 3, 5):
            for size in (2, 3, 4, 5):
                if t ** size < 300:
                    some = unsplit(size, t)
                    self.check(some[:20 // size], 1, t)
                    self.check(some[-(20 // size):], t - 1, t)
        t = 997
        odd = no_square(t)
        self.check([(-odd * root * root % t, 0, 1) for root in range(1, 11)], 500, t)
        self.check([((root * root - odd) % t, 2 * root, 1) for root in range(1, 9)], 2, t)

    def test_of_several_degrees(self):
        random = source(210)
        for turn in range(60):
            t = random.choice((2, 3, 5))
            some = [part for size in range(1, 6 if t < 5 else 4) for part in unsplit_once(size, t)]
            random.shuffle(some)
            chosen = []
            for part in some:
                if sum(len(other) - 1 for other in chosen) + len(part) - 1 <= 20:
                    chosen.append(part)
            self.check(chosen, random.randrange(1, t), t)

    def test_a_prime_near_a_thousand(self):
        random = source(211)
        for t in (991, 997):
            odd = no_square(t)
            for turn in range(10):
                linear = [(root, 1) for root in random.sample(range(t), random.randint(0, 6))]
                square = [((root * root - odd) % t, 2 * root % t, 1) for root in random.sample(range(t), 3)]
                self.check(linear + square, random.randrange(1, t), t)

    def test_random_ones(self):
        random = source(212)
        many = 0
        while many < 60:
            t = random.choice((2, 3, 5, 7, 31, 499, 997))
            one = some_by(random, 20, t)
            if len(one) > 1 and free_by(one, t):
                found = parts_by(one, t)
                self.assertEqual(found, by_order(found))
                self.assertEqual(product_by(found, t), single(one, t))
                self.assertFalse(any(splits_by(part, t) or part[-1] != 1 for part in found))
                self.assertEqual(parts_by(one, t), found)
                many += 1

    def test_the_list_is_new(self):
        one = parts_by((2, 0, 1), 3)
        one.append(1)
        self.assertEqual(parts_by((2, 0, 1), 3), [(1, 1), (2, 1)])


KNOWN = {}


def unsplit_once(size, t):
    if (size, t) not in KNOWN:
        KNOWN[size, t] = unsplit(size, t)
    return KNOWN[size, t]


if __name__ == "__main__":
    unittest.main()
