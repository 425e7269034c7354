import unittest
from fractions import Fraction

from rootcourt.errors import NoName
from rootcourt.forms import f_of, f_plus, f_scaled, f_times, is_form
from rootcourt.taking import taken_out, taken_right
from tests.helper import Odd, anything, source
from tests.test_forms import NO_NAMES, X, Y, Z, added_up, product, some_form

GREAT = 10 ** 70 + 9
ONE = (((0, 0, 0), 1),)
PLACES = {"x": 0, "y": 1, "z": 2}


def has_name(f, name):
    return any(powers[PLACES[name]] for powers, weight in f)


def weights_at(f, name, others):
    """The weights by a name, with numbers in the place of the two other names."""
    place = PLACES[name]
    size = max([powers[place] for powers, weight in f], default=0)
    found = [0] * (size + 1)
    for powers, weight in f:
        left = [power for at, power in enumerate(powers) if at != place]
        found[powers[place]] += weight * others[0] ** left[0] * others[1] ** left[1]
    return found


def determinant(rows):
    rows = [[Fraction(number) for number in row] for row in rows]
    found = Fraction(1)
    for column in range(len(rows)):
        pivots = [row for row in range(column, len(rows)) if rows[row][column]]
        if not pivots:
            return Fraction(0)
        if pivots[0] != column:
            rows[column], rows[pivots[0]] = rows[pivots[0]], rows[column]
            found = -found
        found *= rows[column][column]
        for row in range(column + 1, len(rows)):
            factor = rows[row][column] / rows[column][column]
            rows[row] = [one - factor * other for one, other in zip(rows[row], rows[column])]
    return found


def surely_apart(f, g, name):
    """True only where f and g, both with the name, have no common part with it."""
    one, other = weights_at(f, name, (1009, -757)), weights_at(g, name, (1009, -757))
    size = len(one) + len(other) - 2
    rows = [[0] * start + one + [0] * (size - len(one) - start) for start in range(len(other) - 1)]
    rows += [[0] * start + other + [0] * (size - len(other) - start) for start in range(len(one) - 1)]
    return determinant(rows) != 0


class TakenOut(unittest.TestCase):

    def check(self, f, g, name):
        paper = taken_out(f, g, name)
        self.assertIs(type(paper), tuple)
        self.assertEqual(len(paper), 3)
        for thing in paper:
            self.assertIs(is_form(thing), True)
        found, a, b = paper
        self.assertFalse(has_name(found, name))
        self.assertEqual(added_up(product(a, f) + product(b, g)), found)
        self.assertIs(taken_right(f, g, name, paper), True)
        return found

    def test_no_common_part(self):
        # x - y and x - z, x^2 + y^2 - 1 and x y - 2.
        f, g = f_plus(X, f_scaled(Y, -1)), f_plus(X, f_scaled(Z, -1))
        self.assertNotEqual(self.check(f, g, "x"), ())
        circle = f_plus(f_plus(f_times(X, X), f_times(Y, Y)), f_scaled(ONE, -1))
        for name in "xy":
            self.assertNotEqual(self.check(circle, f_plus(f_times(X, Y), f_scaled(ONE, -2)), name), ())

    def test_random_ones(self):
        random = source(90)
        seen = 0
        for turn in range(150):
            f, g = some_form(random, 5, 3), some_form(random, 5, 3)
            for name in "xyz":
                found = self.check(f, g, name)
                if has_name(f, name) and has_name(g, name) and surely_apart(f, g, name):
                    self.assertNotEqual(found, ())
                    seen += 1
        self.assertGreater(seen, 150)

    def test_common_parts_with_the_name(self):
        random = source(91)
        for turn in range(60):
            shared = f_plus(f_times(X, f_plus(Y, Z)), some_form(random, 3, 2))
            one, other = some_form(random, 3, 2), some_form(random, 3, 2)
            if has_name(shared, "x"):
                self.assertEqual(self.check(f_times(shared, one), f_times(shared, other), "x"), ())

    def test_common_parts_without_the_name(self):
        y_part = f_plus(f_times(Y, Y), Z)
        f, g = f_times(y_part, f_plus(X, Y)), f_times(y_part, f_plus(f_times(X, X), Z))
        self.assertNotEqual(self.check(f, g, "x"), ())
        self.assertEqual(self.check(f, g, "y"), ())

    def test_without_the_name(self):
        f, g = f_plus(Y, Z), f_plus(f_times(X, X), Y)
        self.assertNotEqual(self.check(f, g, "x"), ())
        self.assertNotEqual(self.check(g, f, "x"), ())
        self.assertNotEqual(self.check(f, Y, "x"), ())
        self.assertNotEqual(self.check(f, f, "x"), ())
        self.assertNotEqual(self.check(ONE, ONE, "x"), ())

    def test_noughts(self):
        self.assertEqual(self.check((), (), "x"), ())
        self.assertEqual(self.check(X, (), "x"), ())
        self.assertEqual(self.check((), X, "x"), ())
        self.assertNotEqual(self.check(Y, (), "x"), ())
        self.assertNotEqual(self.check((), Y, "x"), ())
        self.assertNotEqual(self.check((), ONE, "x"), ())

    def test_the_same_form_twice(self):
        f = f_plus(f_times(X, Y), Z)
        for name in "xyz":
            self.assertEqual(self.check(f, f, name), ())
            self.assertEqual(self.check(f, f_scaled(f, -3), name), ())
        self.assertNotEqual(self.check(Y, Y, "x"), ())

    def test_powers_that_fall_by_more_than_one(self):
        # Between the powers 7, 3 and 0 there are gaps.
        f = f_plus(f_of((-1, 0, 0, 0, 0, 0, 0, 2), "x"), f_times(Y, Z))
        g = f_plus(f_of((1, 0, 0, 3), "x"), Y)
        self.assertNotEqual(self.check(f, g, "x"), ())
        self.assertNotEqual(self.check(g, f, "x"), ())
        great = f_plus(f_of((0,) * 40 + (1,), "x"), f_times(Y, Z))
        self.assertNotEqual(self.check(great, f_plus(f_of((0, 0, 0, 1), "x"), Y), "x"), ())
        self.assertNotEqual(self.check(f_plus(f_of((0,) * 39 + (1,), "x"), Y), great, "x"), ())

    def test_great_weights(self):
        f, g = f_plus(f_scaled(f_times(X, X), GREAT), Y), f_plus(f_scaled(X, GREAT + 1), Z)
        self.assertNotEqual(self.check(f, g, "x"), ())

    def test_what_is_told_may_be_handed_in_again(self):
        f, g = f_plus(f_times(X, Y), Z), f_plus(f_times(X, X), f_times(Y, Z))
        first = self.check(f, g, "x")
        second = self.check(f, f_plus(g, ONE), "x")
        self.check(first, second, "y")

    def test_other_names_are_refused(self):
        for name in NO_NAMES:
            for f, g in ((X, Y), ((), ()), (ONE, X)):
                with self.assertRaises(NoName) as caught:
                    taken_out(f, g, name)
                self.assertIs(caught.exception.name, name)


class TakenRight(unittest.TestCase):

    f = f_plus(f_times(X, X), Y)
    g = f_plus(X, Z)
    # x^2 + y + (z - x)(x + z) = y + z^2.
    good = (f_plus(Y, f_times(Z, Z)), ONE, f_plus(f_scaled(X, -1), Z))

    def test_right_ones(self):
        self.assertIs(taken_right(self.f, self.g, "x", self.good), True)
        self.assertIs(taken_right(self.f, self.g, "x", ((), (), ())), True)
        self.assertIs(taken_right(self.f, self.g, "x", ((), self.g, f_scaled(self.f, -1))), True)
        for factor in (f_scaled(Y, 3), f_plus(Z, ONE)):
            self.assertIs(taken_right(self.f, self.g, "x", tuple(f_times(part, factor) for part in self.good)), True)
        self.assertIs(taken_right(Y, Z, "x", (f_plus(Y, Z), ONE, ONE)), True)
        self.assertIs(taken_right((), (), "x", ((), X, Y)), True)

    def test_the_name_in_what_is_told(self):
        self.assertIs(taken_right(self.f, self.g, "y", self.good), False)
        self.assertIs(taken_right(self.f, self.g, "z", self.good), False)
        self.assertIs(taken_right(self.f, self.g, "x", tuple(f_times(part, X) for part in self.good)), False)
        self.assertIs(taken_right(self.f, self.g, "x", (self.f, ONE, ())), False)

    def test_another_sum(self):
        found, a, b = self.good
        for wrong in ((), ONE, Y, f_scaled(found, -1), f_plus(found, ONE)):
            self.assertIs(taken_right(self.f, self.g, "x", (wrong, a, b)), False)
        for wrong in ((), X, f_scaled(a, 2), f_plus(a, Y)):
            self.assertIs(taken_right(self.f, self.g, "x", (found, wrong, b)), False)
        for wrong in ((), X, f_scaled(b, -1), f_plus(b, ONE)):
            self.assertIs(taken_right(self.f, self.g, "x", (found, a, wrong)), False)
        self.assertIs(taken_right(self.g, self.f, "x", self.good), False)

    def test_other_shapes(self):
        good = self.good
        for thing in (list(good), good[:2], good[1:], good + ((),), good + (ONE,), (good,), (), [], {}):
            self.assertIs(taken_right(self.f, self.g, "x", thing), False)

    def test_things_that_are_no_forms(self):
        wrongs = anything() + [[], list(ONE), (((0, 0, 0), 0),), (((0, 0, 0), True),), (((0, 0, False), 1),), (1,),
                               (((0, 0, 0), 1), ((0, 0, 0), 1)), (((1, 0, 0), 1), ((0, 0, 0), 1)), (((-1, 0, 0), 1),)]
        for place in range(3):
            for thing in wrongs:
                paper = self.good[:place] + (thing,) + self.good[place + 1:]
                self.assertIs(taken_right(self.f, self.g, "x", paper), False)
                paper = ((),) * place + (thing,) + ((),) * (2 - place)
                self.assertIs(taken_right(self.f, self.g, "x", paper), False)
                self.assertIs(taken_right((), (), "x", paper), False)

    def test_anything_at_all(self):
        for thing in anything() + [(Odd(), Odd(), Odd()), (None, None, None)]:
            self.assertIs(taken_right(self.f, self.g, "x", thing), False)
            self.assertIs(taken_right((), (), "x", thing), False)

    def test_powers_however_great(self):
        far = (((0, GREAT, 0), 1),)
        self.assertIs(taken_right(self.f, self.g, "x", tuple(f_times(part, far) for part in self.good)), True)
        self.assertIs(taken_right(self.f, self.g, "x", (far,) + self.good[1:]), False)

    def test_names_are_looked_at_ahead_of_the_paper(self):
        for name in NO_NAMES:
            for paper in (self.good, None, Odd(), (), (Odd(), Odd(), Odd())):
                with self.assertRaises(NoName) as caught:
                    taken_right(self.f, self.g, name, paper)
                self.assertIs(caught.exception.name, name)


if __name__ == "__main__":
    unittest.main()
