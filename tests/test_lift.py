import unittest

from rootcourt.lift import lifted
from rootcourt.modular import by_number
from rootcourt.split import free_by, parts_by
from tests.helper import multiplied, source
from tests.test_modular import remainders


def some_free(random, most, figures, t):
    """A polynomial of whole numbers that is free by t, of degree 1 or more, t not dividing its last weight."""
    while True:
        one = tuple(random.randint(-10 ** figures, 10 ** figures) for place in range(random.randint(2, most + 1)))
        if one[-1] % t and free_by(by_number(one, t), t):
            return one


class Lifting(unittest.TestCase):

    def check(self, f, t, parts, e):
        given = list(parts)
        found = lifted(f, t, parts, e)
        self.assertEqual(parts, given)
        self.assertIs(type(found), list)
        self.assertIsNot(found, parts)
        self.assertEqual(len(found), len(parts))
        m = t ** e
        for one, part in zip(found, parts):
            self.assertEqual(one, remainders(one, m))
            self.assertEqual(one[-1], 1)
            self.assertEqual(len(one), len(part))
            self.assertEqual(remainders(one, t), part)
        product = [weight * f[-1] for weight in multiplied(*found)]
        self.assertEqual(remainders(product, m), remainders(f, m))
        return found

    def test_written_ones(self):
        # 7 has two square roots by 3 ** 4: 13 and -13.
        self.assertEqual(lifted((-7, 0, 1), 3, [(1, 1), (2, 1)], 4), [(13, 1), (68, 1)])
        self.assertEqual(lifted((-7, 0, 1), 3, [(2, 1), (1, 1)], 4), [(68, 1), (13, 1)])
        self.assertEqual(lifted((-1, 2), 3, [(1, 1)], 2), [(4, 1)])
        self.assertEqual(lifted((-2, 0, 1), 5, [(3, 0, 1)], 3), [(123, 0, 1)])

    def test_with_the_first_power_the_parts_stay(self):
        self.assertEqual(lifted((-7, 0, 1), 3, [(1, 1), (2, 1)], 1), [(1, 1), (2, 1)])
        self.check((5, 0, 0, -2), 7, parts_by((5, 0, 0, 5), 7), 1)

    def test_random_ones(self):
        random = source(220)
        for turn in range(150):
            t = random.choice((2, 3, 5, 7, 31, 997))
            f = some_free(random, 9, random.choice((1, 3, 30)), t)
            parts = parts_by(by_number(f, t), t)
            for e in (1, 2, 3, random.randint(4, 40)):
                found = self.check(f, t, parts, e)
            shuffled = list(zip(parts, found))
            random.shuffle(shuffled)
            self.assertEqual(self.check(f, t, [part for part, one in shuffled], e), [one for part, one in shuffled])

    def test_each_power_is_one_of_a_greater(self):
        f, t = (3, -5, 0, 2, 0, -7, 11), 13
        parts = parts_by(by_number(f, t), t)
        greatest = self.check(f, t, parts, 33)
        for e in range(1, 33):
            self.assertEqual(self.check(f, t, parts, e), [remainders(one, t ** e) for one in greatest])

    def test_last_weights(self):
        for last in (1, -1, 2, -2, 8, -8, 10 ** 30 + 1, -10 ** 30 - 1):
            for t in (3, 5, 997):
                f = (1, 5, 0, 0, last)
                if last % t and free_by(by_number(f, t), t):
                    self.check(f, t, parts_by(by_number(f, t), t), 9)

    def test_one_part_alone(self):
        for f, t in (((1, 0, 3), 5), ((-4, 7), 3), ((1, 1, 0, 5), 2), ((7, 1), 2), ((-1, -3), 2)):
            parts = parts_by(by_number(f, t), t)
            self.assertEqual(len(parts), 1)
            for e in (1, 2, 7, 64):
                self.check(f, t, parts, e)

    def test_great_powers(self):
        self.check((1, 0, 0, 0, 1), 3, parts_by((1, 0, 0, 0, 1), 3), 600)
        self.check((1, 0, -10, 0, 3), 997, parts_by((1, 0, 987, 0, 3), 997), 601)
        roots = [(root, 1) for root in range(1, 21)]
        self.check(multiplied(*roots), 997, roots, 100)
        self.check((-7, 0, 1), 3, [(1, 1), (2, 1)], 20000)


if __name__ == "__main__":
    unittest.main()
