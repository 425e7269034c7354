import unittest
from fractions import Fraction

from rootcourt.errors import CourtError, NoName
from rootcourt.forms import f_of, f_plus, f_put, f_scaled, f_times, f_value, f_weights, form, is_form
from tests.helper import Odd, anything, some_fraction, some_poly, source, told, value_at

GREAT = 10 ** 70 + 9
X, Y, Z = (((1, 0, 0), 1),), (((0, 1, 0), 1),), (((0, 0, 1), 1),)
NO_NAMES = ["", "X", "w", "xy", "xyz", "x ", " x", "yz", None, True, False, 0, 1, ("x",), ["x"], {"x": 1}, b"x", 1.5, Odd()]


def some_form(random, terms=4, power=3, figures=1):
    rows = [(tuple(random.randint(0, power) for name in range(3)), random.randint(-10 ** figures, 10 ** figures))
            for term in range(random.randint(0, terms))]
    return added_up(rows)


def added_up(rows):
    """The form of some terms, by adding up each power's weights."""
    found = []
    for powers in sorted({powers for powers, weight in rows}):
        weight = sum(weight for other, weight in rows if other == powers)
        if weight:
            found.append((powers, weight))
    return tuple(found)


def form_at(f, at):
    """The value at three of Python's fractions."""
    total = Fraction(0)
    for (i, j, k), weight in f:
        total += weight * at[0] ** i * at[1] ** j * at[2] ** k
    return total


def some_point(random, figures=1):
    return tuple(some_fraction(random, figures) for name in range(3))


def product(f, g):
    return added_up([(tuple(i + j for i, j in zip(left, right)), one * other) for left, one in f for right, other in g])


class IsForm(unittest.TestCase):

    def test_forms(self):
        for f in ((), X, Y, Z, (((0, 0, 0), -5),), (((0, 0, 1), 1), ((0, 1, 0), 2), ((1, 0, 0), -3)),
                  (((0, 5, 9), 1), ((1, 0, 0), 1)), (((1, 2, 3), GREAT), ((1, 2, 4), -GREAT)), (((GREAT, 0, 0), 1),)):
            self.assertIs(is_form(f), True)

    def test_falling_or_equal_powers(self):
        self.assertIs(is_form((((1, 0, 0), 1), ((0, 1, 0), 1))), False)
        self.assertIs(is_form((((0, 1, 0), 1), ((0, 0, 1), 1))), False)
        self.assertIs(is_form((((1, 1, 2), 1), ((1, 1, 1), 1))), False)
        self.assertIs(is_form((((1, 1, 1), 1), ((1, 1, 1), 2))), False)
        self.assertIs(is_form((((0, 0, 0), 1), ((0, 0, 1), 1), ((0, 0, 1), 1))), False)

    def test_weights_of_nought(self):
        self.assertIs(is_form((((0, 0, 0), 0),)), False)
        self.assertIs(is_form((((0, 0, 1), 4), ((0, 1, 0), 0))), False)

    def test_powers_below_nought(self):
        for powers in ((-1, 0, 0), (0, -1, 0), (0, 0, -1)):
            self.assertIs(is_form(((powers, 1),)), False)

    def test_truths(self):
        self.assertIs(is_form((((0, 0, 0), True),)), False)
        for powers in ((True, 0, 0), (0, True, 0), (0, 0, True), (False, 0, 0), (0, False, 0), (0, 0, False)):
            self.assertIs(is_form(((powers, 1),)), False)

    def test_lists_and_other_shapes(self):
        for thing in ([], [((1, 0, 0), 1)], ([(1, 0, 0), 1],), (([1, 0, 0], 1),), (((1, 0), 1),), (((1, 0, 0, 0), 1),),
                      (((1, 0, 0),),), (((1, 0, 0), 1, 1),), ((1, 0, 0), 1), (1, 0, 0), (((1, 0, 0), 1.0),),
                      (((1.0, 0, 0), 1),), (((1, 0, 0), "1"),), (("100", 1),), (((1, 0, 0), (1, 1)),), ((),), (None,)):
            self.assertIs(is_form(thing), False)

    def test_anything_at_all(self):
        for thing in anything():
            self.assertIs(is_form(thing), False)
            self.assertIs(is_form((thing,)), False)
            self.assertIs(is_form(((thing, 1),)), False)
            self.assertIs(is_form((((thing, 0, 0), 1),)), isinstance(thing, int) and not isinstance(thing, bool)
                          and thing >= 0)
            self.assertIs(is_form((((1, 0, 0), thing),)), isinstance(thing, int) and not isinstance(thing, bool)
                          and thing != 0)


class Form(unittest.TestCase):

    def test_terms_in_any_order(self):
        terms = [((1, 0, 0), 2), ((0, 0, 1), 3), ((0, 1, 0), 5), ((0, 0, 0), 7), ((0, 1, 2), 1)]
        expected = (((0, 0, 0), 7), ((0, 0, 1), 3), ((0, 1, 0), 5), ((0, 1, 2), 1), ((1, 0, 0), 2))
        self.assertEqual(form(terms), expected)
        self.assertEqual(form(terms[::-1]), expected)
        self.assertEqual(form(sorted(terms)), expected)

    def test_terms_of_the_same_powers(self):
        self.assertEqual(form([((1, 2, 3), 2), ((1, 2, 3), 5)]), (((1, 2, 3), 7),))
        self.assertEqual(form([((1, 2, 3), 2), ((0, 0, 0), 1), ((1, 2, 3), -5)]), (((0, 0, 0), 1), ((1, 2, 3), -3)))

    def test_weights_of_nought_and_sums_of_nought(self):
        self.assertEqual(form([]), ())
        self.assertEqual(form([((1, 0, 0), 0)]), ())
        self.assertEqual(form([((1, 0, 0), 0), ((0, 1, 0), 1)]), Y)
        self.assertEqual(form([((1, 0, 0), GREAT), ((0, 1, 0), 1), ((1, 0, 0), -GREAT)]), Y)
        self.assertEqual(form([((1, 0, 0), 2), ((1, 0, 0), -3), ((1, 0, 0), 1)]), ())

    def test_against_another_reckoning(self):
        random = source(80)
        for turn in range(100):
            rows = [(tuple(random.randint(0, 2) for name in range(3)), random.randint(-3, 3)) for term in range(12)]
            kept = list(rows)
            self.assertEqual(form(rows), added_up(rows))
            self.assertIs(is_form(form(rows)), True)
            self.assertEqual(rows, kept)

    def test_as_many_terms_as_promised(self):
        random = source(81)
        rows = [(tuple(random.randint(0, 40) for name in range(3)), random.randint(-10 ** 400, 10 ** 400))
                for term in range(200)]
        self.assertEqual(form(rows), added_up(rows))


class Deeds(unittest.TestCase):

    def pairs(self):
        random = source(82)
        for turn in range(120):
            figures = random.choice((1, 1, 40))
            yield some_form(random, 5, 3, figures), some_form(random, 5, 3, figures)

    def test_sums(self):
        self.assertEqual(f_plus(X, Y), (((0, 1, 0), 1), ((1, 0, 0), 1)))
        self.assertEqual(f_plus(X, X), (((1, 0, 0), 2),))
        self.assertEqual(f_plus((), ()), ())
        self.assertEqual(f_plus(X, ()), X)
        for f, g in self.pairs():
            self.assertEqual(f_plus(f, g), added_up(f + g))
            self.assertIs(is_form(f_plus(f, g)), True)

    def test_sums_that_lose_terms(self):
        minus_x = (((1, 0, 0), -1),)
        self.assertEqual(f_plus(X, minus_x), ())
        self.assertEqual(f_plus(f_plus(X, Y), minus_x), Y)

    def test_products(self):
        self.assertEqual(f_times(X, Y), (((1, 1, 0), 1),))
        self.assertEqual(f_times(X, ()), ())
        self.assertEqual(f_times((), X), ())
        self.assertEqual(f_times((), ()), ())
        for f, g in self.pairs():
            self.assertEqual(f_times(f, g), product(f, g))
            self.assertIs(is_form(f_times(f, g)), True)

    def test_products_that_lose_terms(self):
        # (x + y)(x - y) has no x y.
        plus, minus = f_plus(X, Y), f_plus(X, f_scaled(Y, -1))
        self.assertEqual(f_times(plus, minus), (((0, 2, 0), -1), ((2, 0, 0), 1)))
        cubes = f_plus(f_plus(f_times(X, X), f_scaled(f_times(X, Y), -1)), f_times(Y, Y))
        self.assertEqual(f_times(plus, cubes), (((0, 3, 0), 1), ((3, 0, 0), 1)))

    def test_products_of_great_and_unlike_powers(self):
        f, g = (((0, 40, 3), 2), ((40, 0, 40), -1)), (((0, 0, 40), 1), ((39, 40, 0), 5))
        self.assertEqual(f_times(f, g), product(f, g))
        self.assertEqual(f_times((((GREAT, 0, 1), 1),), (((0, 1, GREAT), 1),)), (((GREAT, 1, GREAT + 1), 1),))

    def test_a_whole_number_of_times(self):
        f = (((0, 0, 0), -3), ((1, 0, 2), 5))
        self.assertEqual(f_scaled(f, 2), (((0, 0, 0), -6), ((1, 0, 2), 10)))
        self.assertEqual(f_scaled(f, -GREAT), (((0, 0, 0), 3 * GREAT), ((1, 0, 2), -5 * GREAT)))
        self.assertEqual(f_scaled(f, 1), f)
        self.assertEqual(f_scaled(f, 0), ())
        self.assertEqual(f_scaled((), 7), ())

    def test_great_ones(self):
        random = source(83)
        f, g = some_form(random, 200, 40, 400), some_form(random, 200, 40, 400)
        at = some_point(random, 1)
        self.assertEqual(form_at(f_times(f, g), at), form_at(f, at) * form_at(g, at))


class Values(unittest.TestCase):

    def test_small_ones(self):
        f = (((0, 0, 0), 1), ((0, 1, 0), -2), ((1, 0, 2), 3))
        self.assertEqual(f_value(f, ((2, 1), (3, 1), (5, 1))), (145, 1))
        self.assertEqual(f_value(f, ((-1, 2), (1, 3), (-2, 1))), (-17, 3))
        self.assertEqual([f_value(one, ((2, 1), (3, 1), (5, 1))) for one in (X, Y, Z)], [(2, 1), (3, 1), (5, 1)])

    def test_nought_and_constants(self):
        for at in (((0, 1), (0, 1), (0, 1)), ((-1, 2), (3, 4), (5, 7))):
            self.assertEqual(f_value((), at), (0, 1))
            self.assertEqual(f_value((((0, 0, 0), -4),), at), (-4, 1))

    def test_where_it_is_nought(self):
        self.assertEqual(f_value((((0, 1, 0), -1), ((1, 0, 0), 1)), ((-3, 7), (-3, 7), (1, 1))), (0, 1))
        self.assertEqual(f_value(X, ((0, 1), (1, 3), (1, 3))), (0, 1))

    def test_against_pythons_own(self):
        random = source(84)
        for turn in range(150):
            f, at = some_form(random, 6, 4, random.choice((1, 30))), some_point(random, random.choice((1, 30)))
            self.assertEqual(f_value(f, tuple(told(r) for r in at)), told(form_at(f, at)))

    def test_great_ones(self):
        random = source(85)
        f, at = some_form(random, 60, 40, 400), some_point(random, 60)
        self.assertEqual(f_value(f, tuple(told(r) for r in at)), told(form_at(f, at)))


class Names(unittest.TestCase):

    def refused(self, deed, name):
        with self.assertRaises(NoName) as caught:
            deed()
        self.assertIs(caught.exception.name, name)
        self.assertIsInstance(caught.exception, CourtError)

    def test_a_polynomial_in_each_name(self):
        self.assertEqual(f_of((-2, 0, 1), "x"), (((0, 0, 0), -2), ((2, 0, 0), 1)))
        self.assertEqual(f_of((-2, 0, 1), "y"), (((0, 0, 0), -2), ((0, 2, 0), 1)))
        self.assertEqual(f_of((-2, 0, 1), "z"), (((0, 0, 0), -2), ((0, 0, 2), 1)))
        for name in "xyz":
            self.assertEqual(f_of((), name), ())
            self.assertEqual(f_of((7,), name), (((0, 0, 0), 7),))

    def test_its_values(self):
        random = source(86)
        for turn in range(40):
            p, at = some_poly(random, 6, 2), some_point(random)
            for place, name in enumerate("xyz"):
                f = f_of(p, name)
                self.assertIs(is_form(f), True)
                self.assertEqual(form_at(f, at), value_at(p, at[place]))

    def test_other_names_are_refused(self):
        for name in NO_NAMES:
            self.refused(lambda: f_of((-2, 0, 1), name), name)
            self.refused(lambda: f_of((), name), name)
            self.refused(lambda: f_put(X, name, Y), name)
            self.refused(lambda: f_put((), name, ()), name)
            self.refused(lambda: f_weights(X, name), name)
            self.refused(lambda: f_weights((), name), name)


class Put(unittest.TestCase):

    def test_for_each_name(self):
        f = f_plus(f_times(X, X), f_plus(f_scaled(f_times(Y, Z), 3), f_times(X, Z)))
        self.assertEqual(f_put(f, "x", Y), f_plus(f_times(Y, Y), f_scaled(f_times(Y, Z), 4)))
        self.assertEqual(f_put(f, "y", X), f_plus(f_times(X, X), f_scaled(f_times(X, Z), 4)))
        self.assertEqual(f_put(f, "z", X), f_plus(f_scaled(f_times(X, X), 2), f_scaled(f_times(X, Y), 3)))

    def test_what_is_put_in_may_have_the_name_itself(self):
        self.assertEqual(f_put(f_times(X, X), "x", f_plus(X, Y)),
                         (((0, 2, 0), 1), ((1, 1, 0), 2), ((2, 0, 0), 1)))

    def test_constants_and_nought(self):
        f = (((0, 0, 0), 4), ((0, 2, 0), 3), ((1, 0, 1), -1))
        five = (((0, 0, 0), 5),)
        self.assertEqual(f_put(f, "x", five), (((0, 0, 0), 4), ((0, 0, 1), -5), ((0, 2, 0), 3)))
        self.assertEqual(f_put(f, "y", five), (((0, 0, 0), 79), ((1, 0, 1), -1)))
        self.assertEqual(f_put(f, "z", five), (((0, 0, 0), 4), ((0, 2, 0), 3), ((1, 0, 0), -5)))
        self.assertEqual(f_put(f, "x", ()), (((0, 0, 0), 4), ((0, 2, 0), 3)))
        self.assertEqual(f_put(f, "y", ()), (((0, 0, 0), 4), ((1, 0, 1), -1)))
        self.assertEqual(f_put(X, "x", ()), ())
        self.assertEqual(f_put((), "x", f), ())
        self.assertEqual(f_put((), "x", ()), ())
        self.assertEqual(f_put(five, "z", f), five)

    def test_sums_that_lose_terms(self):
        self.assertEqual(f_put((((0, 1, 0), -1), ((1, 0, 0), 1)), "x", Y), ())

    def test_by_values(self):
        random = source(87)
        for turn in range(80):
            f, g, at = some_form(random, 4, 3), some_form(random, 3, 2), some_point(random)
            for place, name in enumerate("xyz"):
                found = f_put(f, name, g)
                self.assertIs(is_form(found), True)
                there = at[:place] + (form_at(g, at),) + at[place + 1:]
                self.assertEqual(form_at(found, at), form_at(f, there))


class Weights(unittest.TestCase):

    def test_each_name(self):
        f = (((0, 0, 0), 4), ((0, 2, 0), 3), ((0, 2, 1), 6), ((2, 0, 1), -1))
        self.assertEqual(f_weights(f, "x"), [(((0, 0, 0), 4), ((0, 2, 0), 3), ((0, 2, 1), 6)), (), (((0, 0, 1), -1),)])
        self.assertEqual(f_weights(f, "y"), [(((0, 0, 0), 4), ((2, 0, 1), -1)), (), (((0, 0, 0), 3), ((0, 0, 1), 6))])
        self.assertEqual(f_weights(f, "z"), [(((0, 0, 0), 4), ((0, 2, 0), 3)), (((0, 2, 0), 6), ((2, 0, 0), -1))])

    def test_without_the_name(self):
        self.assertEqual(f_weights(Y, "x"), [Y])
        self.assertEqual(f_weights((((0, 0, 0), 9),), "z"), [(((0, 0, 0), 9),)])

    def test_nought(self):
        for name in "xyz":
            self.assertEqual(f_weights((), name), [])

    def test_they_add_up_again(self):
        random = source(88)
        for turn in range(80):
            f = some_form(random, 8, 3)
            for place, name in enumerate("xyz"):
                weights = f_weights(f, name)
                self.assertIs(type(weights), list)
                self.assertTrue(weights == [] or weights[-1] != ())
                rows = []
                for many, weight in enumerate(weights):
                    self.assertIs(is_form(weight), True)
                    self.assertTrue(all(powers[place] == 0 for powers, number in weight))
                    rows += [(powers[:place] + (many,) + powers[place + 1:], number) for powers, number in weight]
                self.assertEqual(added_up(rows), f)

    def test_a_told_list_is_the_askers_own(self):
        for f in ((), X):
            first = f_weights(f, "x")
            kept = list(first)
            first.append(None)
            self.assertEqual(f_weights(f, "x"), kept)


if __name__ == "__main__":
    unittest.main()
