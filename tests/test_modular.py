import unittest

from rootcourt.errors import CourtError, NoPart
from rootcourt.modular import (by_number, inverse_by, m_inverse, m_minus, m_parted, m_plus, m_power, m_shared, m_times,
                               single)
from tests.helper import added, multiplied, source, trimmed

GREAT_PRIME = 2 ** 127 - 1
GREAT = 10 ** 90
NUMBERS = (2, 3, 4, 6, 7, 12, 35, 97, 997, 10 ** 6, GREAT_PRIME, GREAT, GREAT_PRIME * 3)
PRIMES = (2, 3, 5, 13, 101, 997, GREAT_PRIME)


def remainders(weights, m):
    return trimmed(weight % m for weight in weights)


def opposite(one):
    return tuple(-weight for weight in one)


def some_by(random, most, m):
    """A polynomial by m of a degree up to most, nought among them."""
    return remainders([random.randrange(m) for place in range(random.randint(0, most + 1))], m)


def all_by(most, m):
    """Every polynomial by m of a degree up to most."""
    found = [()]
    for place in range(most + 1):
        found = [rest + (weight,) for rest in found for weight in range(m)]
    return [trimmed(weights) for weights in found]


class Sums(unittest.TestCase):

    def check(self, one, other, m):
        self.assertEqual(m_plus(one, other, m), remainders(added(one, other), m))
        self.assertEqual(m_minus(one, other, m), remainders(added(one, opposite(other)), m))
        self.assertEqual(m_times(one, other, m), remainders(multiplied(one, other), m))

    def test_told_by_remainders(self):
        self.assertEqual(by_number((7, -1, 5), 5), (2, 4))
        self.assertEqual(by_number((7, -1, 6), 5), (2, 4, 1))
        self.assertEqual(by_number((-10, 15, 5), 5), ())
        self.assertEqual(by_number((), 5), ())
        self.assertEqual(by_number((-1,), 2), (1,))
        self.assertEqual(by_number((2, 3), 2), (0, 1))
        self.assertEqual(by_number((-GREAT - 1, GREAT * GREAT + 5, 3 * GREAT), GREAT), (GREAT - 1, 5))

    def test_random_remainders(self):
        random = source(200)
        for turn in range(200):
            m = random.choice(NUMBERS)
            one = trimmed(random.randint(-3 * m, 3 * m) for place in range(random.randint(0, 8)))
            found = by_number(one, m)
            self.assertEqual(found, remainders(one, m))
            self.assertIs(type(found), tuple)
            self.assertTrue(all(0 <= weight < m for weight in found))

    def test_written_ones(self):
        self.assertEqual(m_plus((1, 2), (1, 1), 3), (2,))
        self.assertEqual(m_plus((1, 2), (2, 1), 3), ())
        self.assertEqual(m_plus((), (), 4), ())
        self.assertEqual(m_minus((1, 2), (2, 2), 3), (2,))
        self.assertEqual(m_minus((1, 2, 5), (1, 2, 5), 6), ())
        self.assertEqual(m_minus((), (1, 2), 7), (6, 5))
        self.assertEqual(m_times((0, 2), (1, 3), 6), (0, 2))
        self.assertEqual(m_times((0, 2), (3, 3), 6), ())
        self.assertEqual(m_times((1, 1), (1, 1), 2), (1, 0, 1))
        self.assertEqual(m_times((), (1, 1), 2), ())

    def test_small_ones(self):
        for m in (2, 3, 4):
            some = all_by(1, m)
            for one in some:
                for other in some:
                    self.check(one, other, m)

    def test_random_ones(self):
        random = source(201)
        for turn in range(300):
            m = random.choice(NUMBERS)
            self.check(some_by(random, 6, m), some_by(random, 6, m), m)


class Inverses(unittest.TestCase):

    def test_all_of_small_numbers(self):
        for m in range(2, 40):
            for number in range(-2 * m - 1, 2 * m + 2):
                fitting = [other for other in range(m) if other * number % m == 1]
                if fitting:
                    self.assertEqual([inverse_by(number, m)], fitting)
                else:
                    with self.assertRaises(NoPart):
                        inverse_by(number, m)

    def test_great_ones(self):
        random = source(202)
        for turn in range(100):
            number = random.randint(-GREAT_PRIME ** 2, GREAT_PRIME ** 2)
            found = inverse_by(number, GREAT_PRIME)
            self.assertTrue(0 <= found < GREAT_PRIME and found * number % GREAT_PRIME == 1)
        self.assertEqual(inverse_by(3, GREAT) * 3 % GREAT, 1)
        self.assertEqual(inverse_by(-1, GREAT), GREAT - 1)

    def test_refusals(self):
        for number, m in ((0, 2), (0, 7), (14, 7), (-7, 7), (2, 4), (15, GREAT), (GREAT, GREAT), (-6, 9)):
            for refusal in (NoPart, CourtError):
                with self.assertRaises(refusal):
                    inverse_by(number, m)

    def test_of_a_polynomial(self):
        for t in (2, 3, 5):
            for other in all_by(3, t)[::7]:
                for one in all_by(2, t)[::3]:
                    if len(other) > 1 and len(m_shared(one, other, t)) == 1:
                        found = m_inverse(one, other, t)
                        self.assertLess(len(found), len(other))
                        self.assertEqual(m_parted(multiplied(found, one), other, t)[1], (1,))


class Division(unittest.TestCase):

    def check(self, one, other, m):
        found = m_parted(one, other, m)
        self.assertIs(type(found), tuple)
        quotient, rest = found
        self.assertLess(len(rest), len(other))
        self.assertEqual((quotient, rest), (remainders(quotient, m), remainders(rest, m)))
        self.assertEqual(remainders(added(multiplied(quotient, other), rest), m), one)

    def test_written_ones(self):
        self.assertEqual(m_parted((1, 0, 1), (1, 1), 2), ((1, 1), ()))
        self.assertEqual(m_parted((1, 0, 1), (1, 2), 5), ((1, 3), ()))
        self.assertEqual(m_parted((1, 0, 1), (1, 2), 7), ((5, 4), (3,)))
        self.assertEqual(m_parted((1, 2, 3), (5,), 6), ((5, 4, 3), ()))
        self.assertEqual(m_parted((1, 2), (1, 0, 1), 6), ((), (1, 2)))
        self.assertEqual(m_parted((), (1, 2), 3), ((), ()))
        self.assertEqual(m_parted((), (2,), 3), ((), ()))
        self.assertEqual(m_parted((3, 4, 2), (0, 3), 4), ((0, 2), (3,)))

    def test_random_ones(self):
        random = source(203)
        many = 0
        for turn in range(400):
            m = random.choice(NUMBERS)
            one, other = some_by(random, 8, m), some_by(random, 4, m)
            try:
                inverse_by(other[-1] if other else 0, m)
            except NoPart:
                with self.assertRaises(NoPart):
                    m_parted(one, other, m)
            else:
                self.check(one, other, m)
                many += 1
        self.assertGreater(many, 200)

    def test_refusals(self):
        for one, other, m in (((1, 1), (), 5), ((), (), 5), ((1, 1), (1, 2), 4), ((1, 1), (1, 5), 10),
                              ((), (1, 2), 6), ((1,), (1, 3), 6), ((1, 1, 1), (3,), 6), ((1,), (0, 10), GREAT)):
            for refusal in (NoPart, CourtError):
                with self.assertRaises(refusal):
                    m_parted(one, other, m)


class CommonParts(unittest.TestCase):

    def test_single_ones(self):
        self.assertEqual(single((), 7), ())
        self.assertEqual(single((3,), 7), (1,))
        self.assertEqual(single((1, 2, 3), 7), (5, 3, 1))
        self.assertEqual(single((4, 6, 1), 7), (4, 6, 1))
        self.assertEqual(single((1, 1), 2), (1, 1))
        random = source(204)
        for turn in range(100):
            t = random.choice(PRIMES)
            one = some_by(random, 6, t)
            found = single(one, t)
            self.assertEqual(len(found), len(one))
            if one:
                self.assertEqual(found[-1], 1)
                self.assertEqual(remainders([weight * one[-1] for weight in found], t), one)

    def test_written_ones(self):
        self.assertEqual(m_shared((), (), 5), ())
        self.assertEqual(m_shared((2, 4), (), 5), (3, 1))
        self.assertEqual(m_shared((), (2, 4), 5), (3, 1))
        self.assertEqual(m_shared((3,), (), 5), (1,))
        self.assertEqual(m_shared((3,), (4,), 5), (1,))
        self.assertEqual(m_shared((3,), (1, 2), 5), (1,))
        self.assertEqual(m_shared((1, 2), (3,), 5), (1,))
        self.assertEqual(m_shared((1, 0, 1), (1, 1), 2), (1, 1))
        self.assertEqual(m_shared((1, 0, 1), (3, 3), 5), (1,))
        self.assertEqual(m_shared((1, 0, 1), (2, 2, 2, 2), 5), (1, 0, 1))

    def test_small_ones_against_all_divisors(self):
        for t, most in ((2, 3), (3, 2)):
            some = all_by(most, t)
            for one in some:
                for other in some:
                    found = m_shared(one, other, t)
                    if not one and not other:
                        self.assertEqual(found, ())
                        continue
                    self.assertEqual(found[-1], 1)
                    both = [part for part in some if part and not m_parted(one, part, t)[1]
                            and not m_parted(other, part, t)[1]]
                    self.assertIn(found, both)
                    for part in both:
                        self.assertEqual(m_parted(found, part, t)[1], ())

    def test_random_ones(self):
        random = source(205)
        for turn in range(100):
            t = random.choice(PRIMES)
            part = some_by(random, 3, t)
            one = m_times(part, some_by(random, 4, t), t)
            other = m_times(part, some_by(random, 4, t), t)
            found = m_shared(one, other, t)
            self.assertEqual(found, single(found, t))
            if one or other:
                self.assertEqual((m_parted(one, found, t)[1], m_parted(other, found, t)[1]), ((), ()))
                self.assertEqual(m_parted(found, part, t)[1], ())


class Powers(unittest.TestCase):

    def step_by_step(self, one, many, by, m):
        found = m_parted((1,), by, m)[1]
        for time in range(many):
            found = m_parted(multiplied(found, one), by, m)[1]
        return found

    def test_against_single_steps(self):
        random = source(206)
        for turn in range(150):
            m = random.choice(NUMBERS)
            by = some_by(random, 3, m) + (1,)
            if len(by) > 1:
                one, many = some_by(random, 5, m), random.randint(0, 40)
                self.assertEqual(m_power(one, many, by, m), self.step_by_step(one, many, by, m))

    def test_nought_and_one(self):
        for m in (2, 6, GREAT):
            for by in ((1, 1), (0, 1), (1, 0, 1)):
                self.assertEqual(m_power((), 0, by, m), (1,))
                self.assertEqual(m_power((1, 1), 0, by, m), (1,))
                self.assertEqual(m_power((), 1, by, m), ())
                self.assertEqual(m_power((), 9999999999999, by, m), ())
        self.assertEqual(m_power((1, 2), 1, (1, 0, 1), 5), (1, 2))
        self.assertEqual(m_power((1, 2, 3), 1, (1, 0, 1), 5), (3, 2))
        self.assertEqual(m_power((1, 2, 3), 1, (1, 3), 5), m_parted((1, 2, 3), (1, 3), 5)[1])

    def test_great_powers(self):
        # By x - a, a polynomial leaves its value at a: so powers are those of numbers.
        for m in (5, 12, 997, GREAT):
            for many in (10 ** 12, 9999999999999, 1234567890123):
                for base in (2, 3, 10):
                    expected = pow(base + 1, many, m)
                    self.assertEqual(m_power((1, 1), many, (m - base, 1), m), trimmed((expected,)))
        # By x^2 + 1 with t = 4k + 3, x to the power t is -x.
        self.assertEqual(m_power((0, 1), 999999999989 * 4, (1, 0, 1), 7), (1,))
        self.assertEqual(m_power((0, 1), 1000000000001, (1, 0, 1), 7), (0, 1))
        self.assertEqual(m_power((0, 1), 1000000000003, (1, 0, 1), 7), (0, 6))
        self.assertEqual(m_power((0, 1), 10 ** 60 + 3, (1, 0, 1), 7), (0, 6))

    def test_refusals(self):
        for one in ((), (1,), (1, 1)):
            for many in (0, 1, 2, 9999999999999):
                for by, m in (((1, 2), 4), ((1, 1, 3), 6), ((1, 10), GREAT)):
                    for refusal in (NoPart, CourtError):
                        with self.assertRaises(refusal):
                            m_power(one, many, by, m)


if __name__ == "__main__":
    unittest.main()
