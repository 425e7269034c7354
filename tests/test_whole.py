import math
import unittest

from rootcourt.whole import common, divisor, divisor_of, is_whole, root_floor
from tests.helper import anything, some_whole, source

GREAT = 10 ** 70 + 33


class IsWhole(unittest.TestCase):

    def test_whole_numbers(self):
        for number in (0, 1, -1, 17, GREAT, -GREAT):
            self.assertIs(is_whole(number), True)

    def test_truths_are_none(self):
        self.assertIs(is_whole(True), False)
        self.assertIs(is_whole(False), False)

    def test_anything_else_is_none(self):
        for thing in anything() + [None, "1", "", 1.0, (1,), [1]]:
            if not isinstance(thing, int):
                self.assertIs(is_whole(thing), False)


class Divisor(unittest.TestCase):

    def test_ordinary_numbers(self):
        self.assertEqual(divisor(12, 18), 6)
        self.assertEqual(divisor(18, 12), 6)
        self.assertEqual(divisor(7, 9), 1)

    def test_noughts(self):
        self.assertEqual(divisor(0, 0), 0)
        self.assertEqual(divisor(0, 5), 5)
        self.assertEqual(divisor(5, 0), 5)
        self.assertEqual(divisor(0, -5), 5)
        self.assertEqual(divisor(-5, 0), 5)

    def test_numbers_below_nought(self):
        self.assertEqual(divisor(-12, 18), 6)
        self.assertEqual(divisor(12, -18), 6)
        self.assertEqual(divisor(-12, -18), 6)

    def test_great_numbers(self):
        self.assertEqual(divisor(GREAT * 6, GREAT * 4), GREAT * 2)
        self.assertEqual(divisor(10 ** 400, 2 ** 900), 2 ** 400)

    def test_against_pythons_own(self):
        random = source(1)
        for turn in range(300):
            one, other = some_whole(random, random.choice((1, 3, 80))), some_whole(random, random.choice((1, 3, 80)))
            shared = some_whole(random, random.choice((1, 40)))
            self.assertEqual(divisor(one * shared, other * shared), math.gcd(one * shared, other * shared))


class DivisorOf(unittest.TestCase):

    def test_lists(self):
        self.assertEqual(divisor_of([12, 18, 27]), 3)
        self.assertEqual(divisor_of([4]), 4)
        self.assertEqual(divisor_of([-4]), 4)
        self.assertEqual(divisor_of([-4, 0, 6]), 2)
        self.assertEqual(divisor_of([3, 5, 0]), 1)
        self.assertEqual(divisor_of([0, 3, 9]), 3)

    def test_noughts_alone_and_nothing(self):
        self.assertEqual(divisor_of([]), 0)
        self.assertEqual(divisor_of([0]), 0)
        self.assertEqual(divisor_of([0, 0, 0]), 0)

    def test_great_numbers(self):
        self.assertEqual(divisor_of([GREAT * 6, -GREAT * 10, GREAT * 15, 0]), GREAT)

    def test_the_list_stays(self):
        some = [12, -18, 0]
        self.assertEqual(divisor_of(some), divisor_of(some))
        self.assertEqual(some, [12, -18, 0])


class Common(unittest.TestCase):

    def test_ordinary_numbers(self):
        self.assertEqual(common(4, 6), 12)
        self.assertEqual(common(1, 1), 1)
        self.assertEqual(common(5, 7), 35)

    def test_numbers_below_nought(self):
        self.assertEqual(common(-4, 6), 12)
        self.assertEqual(common(4, -6), 12)
        self.assertEqual(common(-4, -6), 12)

    def test_noughts(self):
        self.assertEqual(common(0, 5), 0)
        self.assertEqual(common(5, 0), 0)
        self.assertEqual(common(0, -5), 0)
        self.assertEqual(common(0, 0), 0)

    def test_great_numbers(self):
        self.assertEqual(common(GREAT * 6, GREAT * 4), GREAT * 12)

    def test_against_pythons_own(self):
        random = source(2)
        for turn in range(200):
            one, other = some_whole(random, random.choice((1, 3, 80))), some_whole(random, random.choice((1, 3, 80)))
            self.assertEqual(common(one, other), math.lcm(one, other))


class RootFloor(unittest.TestCase):

    def test_small_numbers(self):
        for number in range(2000):
            self.assertEqual(root_floor(number), math.isqrt(number))

    def test_squares_and_their_neighbours(self):
        for root in (2, 3, 99, 10 ** 9, 10 ** 30 + 7, 10 ** 60 + 1, 2 ** 400, 2 ** 400 - 1, 10 ** 200 + 9, 10 ** 1000):
            self.assertEqual(root_floor(root * root), root)
            self.assertEqual(root_floor(root * root - 1), root - 1)
            self.assertEqual(root_floor(root * root + 1), root)
            self.assertEqual(root_floor(root * root + 2 * root), root)

    def test_great_numbers_against_pythons_own(self):
        random = source(3)
        for turn in range(100):
            number = abs(some_whole(random, random.randint(1, 250)))
            self.assertEqual(root_floor(number), math.isqrt(number))


class Kinds(unittest.TestCase):

    def test_whole_numbers_are_told(self):
        for number in (divisor(4, 6), divisor(0, 0), divisor_of([]), common(0, 3), common(2, 3), root_floor(0),
                       root_floor(1)):
            self.assertIs(type(number), int)


if __name__ == "__main__":
    unittest.main()
