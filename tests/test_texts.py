import re
import unittest
from fractions import Fraction

from rootcourt.cuts import roots_of
from rootcourt.errors import CourtError, NoText, TooGreat
from rootcourt.factors import factors
from rootcourt.numbers import beside, is_number, number
from rootcourt.order import order
from rootcourt.texts import read_fraction, read_number, read_poly, show_fraction, show_number, show_poly
from tests.helper import (ROOT_TWO, added, anything, linear, multiplied, point, some_fraction, some_poly, source, stretch,
                          told, trimmed)

SIXTY = "1" + "0" * 59
NINES = "9" * 60

NUMBER = r"(?:0|[1-9][0-9]{0,59})"
FACTOR = r"(?:" + NUMBER + r"|x|B)(?:\^(?:1[0-6]|[0-9]))?"
PRODUCT = FACTOR + r"(?:\*" + FACTOR + r")*"
SUM = r"-?" + PRODUCT + r"(?:[+-]" + PRODUCT + r")*"


def no_texts():
    return [thing for thing in anything() if not isinstance(thing, str)]


def is_form(text):
    """Whether a polynomial's text is of the form that is read, by drawing brackets together."""
    if len(text) > 400 or "B" in text or depth_of(text) > 10:
        return False
    ahead = None
    while ahead != text:
        ahead, text = text, re.sub(r"\((?:" + SUM + r")\)", "B", text)
        text = re.sub(r"\(B\)", "B", text)
    return re.fullmatch(SUM, text) is not None


def depth_of(text):
    depth = most = 0
    for sign in text:
        depth += (sign == "(") - (sign == ")")
        most = max(most, depth)
    return most


class Beyond(Exception):
    pass


class Held:
    """A polynomial that Python's own operators reckon with, within the bounds of what is read."""

    def __init__(self, weights):
        if len(weights) > 17 or any(len(str(abs(weight))) > 60 for weight in weights):
            raise Beyond
        self.weights = weights

    def __add__(self, other):
        return Held(added(self.weights, other.weights))

    def __neg__(self):
        return Held(tuple(-weight for weight in self.weights))

    def __sub__(self, other):
        return self + -other

    def __mul__(self, other):
        return Held(multiplied(self.weights, other.weights))

    def __pow__(self, many):
        found = Held((1,))
        for time in range(many):
            found = found * self
        return found


def reckoned(text):
    """What a text of the right form says, by Python's own reading of it."""
    written = re.sub(r"(?<![\^0-9])([0-9]+)", r"N(\1)", text).replace("^", "**")
    return eval(written, {"N": lambda value: Held(trimmed((value,))), "x": Held((0, 1))}).weights


class Fractions(unittest.TestCase):

    def test_written(self):
        for r, text in (((-3, 4), "-3/4"), ((5, 1), "5"), ((0, 1), "0"), ((-7, 1), "-7"), ((1, 2), "1/2"),
                        ((10, 11), "10/11"), ((10 ** 60, 1), "1" + "0" * 60)):
            self.assertEqual(show_fraction(r), text)

    def test_many_figures(self):
        great = 10 ** 3999
        self.assertEqual(show_fraction((great, great + 1)), "1" + "0" * 3999 + "/1" + "0" * 3998 + "1")
        self.assertEqual(show_fraction((-great, 1)), "-1" + "0" * 3999)

    def test_read(self):
        for text, r in (("-3/4", (-3, 4)), ("5", (5, 1)), ("0", (0, 1)), ("-7", (-7, 1)), ("1/2", (1, 2)),
                        ("100/7", (100, 7)), ("-1/10", (-1, 10))):
            self.assertEqual(read_fraction(text), r)
        random = source(600)
        for turn in range(200):
            r = told(some_fraction(random, random.choice((1, 3, 59))))
            self.assertEqual(read_fraction(show_fraction(r)), r)

    def test_sixty_figures(self):
        self.assertEqual(read_fraction(SIXTY), (10 ** 59, 1))
        self.assertEqual(read_fraction("-" + NINES + "/" + SIXTY), (1 - 10 ** 60, 10 ** 59))
        for text in (SIXTY + "0", "-" + SIXTY + "0", "1/" + SIXTY + "0", SIXTY + "0/7", "0" + SIXTY, "1" * 5000):
            with self.assertRaises(NoText):
                read_fraction(text)

    def test_refused(self):
        for text in ("2/4", "5/1", "-0", "+5", "1/0", "0/1", "0/5", "-0/5", "00", "01", "1/02", "-05", "", "-", "/", "1/",
                     "/2", "-/2", "1/-2", "--1", "1/2/3", "1//2", " 1", "1 ", "1 /2", "1/ 2", "- 1", "1.5", "1e3", "x",
                     "1_000", "1,5", "0x1", "(1)", "1+1", "one", "-1/0", "0/0", "3/3", "-2/2", "6/4", "1/2 ", "~", "-+1"):
            for refusal in (NoText, CourtError):
                with self.assertRaises(refusal):
                    read_fraction(text)

    def test_no_texts(self):
        for thing in no_texts():
            with self.assertRaises(NoText):
                read_fraction(thing)


class Polynomials(unittest.TestCase):

    def test_written(self):
        for p, text in (((), "0"), ((5, -1, 3), "3*x^2-x+5"), ((0, 1), "x"), ((0, -1), "-x"), ((1,), "1"), ((-1,), "-1"),
                        ((0, 0, 1), "x^2"), ((0, 0, -1), "-x^2"), ((-1, 1), "x-1"), ((1, -1), "-x+1"), ((0, 2), "2*x"),
                        ((0, -2), "-2*x"), ((-12, 0, 0, 10), "10*x^3-12"), ((1, 1, 1), "x^2+x+1"),
                        ((-1, -1, -1), "-x^2-x-1"), ((0,) * 20 + (1,), "x^20"), ((0, 11, 0, 0, -1), "-x^4+11*x")):
            self.assertEqual(show_poly(p), text)

    def test_many_figures(self):
        great = 10 ** 3999
        self.assertEqual(show_poly((great, -great)), "-1" + "0" * 3999 + "*x+1" + "0" * 3999)

    def test_what_is_written_is_read(self):
        random = source(601)
        for turn in range(200):
            p = some_poly(random, random.choice((1, 3, 9)), random.choice((1, 2, 10)))
            text = show_poly(p)
            self.assertEqual(read_poly(text), p)
            self.assertTrue(is_form(text))

    def test_read(self):
        for text, p in (("(x-1)^2*(x+2)-x", (2, -4, 0, 1)), ("0", ()), ("x", (0, 1)), ("-x", (0, -1)), ("7", (7,)),
                        ("-7", (-7,)), ("x+1", (1, 1)), ("1-x", (1, -1)), ("-x-x", (0, -2)), ("2*3", (6,)), ("2*x*x", (0, 0, 2)),
                        ("x*2", (0, 2)), ("x-x", ()), ("-(x+1)", (-1, -1)), ("(-x+1)", (1, -1)), ("(-x)*(-x)", (0, 0, 1)),
                        ("-x^2", (0, 0, -1)), ("(-x)^2", (0, 0, 1)), ("2^10", (1024,)), ("x^0", (1,)), ("0^0", (1,)),
                        ("0^5", ()), ("(x+1)^0", (1,)), ("(x)", (0, 1)), ("((x))", (0, 1)), ("(5)^2", (25,)), ("x^1", (0, 1)),
                        ("3*x^2-x+5", (5, -1, 3)), ("2*(x+1)*3", (6, 6)), ("1-2-3", (-4,)), ("1-(2-3)", (2,)),
                        ("-1+1", ()), ("-2^2", (-4,)), ("2*x^2*3^2", (0, 0, 18)), ("x^10+0*x", (0,) * 10 + (1,)),
                        ("(x-x)^0", (1,)), ("10*x", (0, 10)), ("(-(-(-x)))", (0, -1))):
            self.assertTrue(is_form(text))
            self.assertEqual(read_poly(text), p, text)

    def test_refused(self):
        for text in ("", " ", "+x", "--x", "x+-1", "x--1", "x++1", "x+", "x-", "x*", "*x", "-", "+", "()", "(", ")", "(x",
                     "x)", "x()", "2x", "x2", "xx", "(x)(x)", "2(x)", "(x)2", "x^", "^2", "x^-1", "x^x", "x^(2)", "x^2^2",
                     "x^17", "x^99", "x^016", "x^01", "x^00", "2^17", "(x)^17", "x ^2", "x +1", " x", "x ", "x^ 2", "x**2",
                     "01", "00", "-01*x", "x+01", "X", "y", "x/2", "1/2", "1.5", "x=1", "x;1", "-+x", "+-x", "(+x)", "(--x)",
                     "2*-x", "x*-1", "x-(+1)", "(-)", "x^(1)", "x^+2", "((x)", "(x))", "x^10*x^10)", "x*(", "[x]", "{x}",
                     "x,x", "x_1", "0x", "1e5", "root 1 of x"):
            self.assertFalse(is_form(text))
            for refusal in (NoText, CourtError):
                with self.assertRaises(refusal):
                    read_poly(text)

    def test_no_texts(self):
        for thing in no_texts():
            with self.assertRaises(NoText):
                read_poly(thing)

    def test_brackets(self):
        for many in (1, 9, 10):
            self.assertEqual(read_poly("(" * many + "x" + ")" * many), (0, 1))
            self.assertEqual(read_poly("-(" * many + "x" + ")" * many), (0, (-1) ** many))
        for many in (11, 12, 100, 199):
            for ahead in ("(", "-("):
                text = ahead * many + "x" + ")" * many
                with self.assertRaises(NoText):
                    read_poly(text)
        # One beside another there may be more.
        self.assertEqual(read_poly("+".join(["(x)"] * 20)), (0, 20))
        self.assertEqual(read_poly("(" * 10 + "x" + ")" * 10 + "+" + "(" * 10 + "1" + ")" * 10), (1, 1))
        with self.assertRaises(NoText):
            read_poly("(" * 400)

    def test_how_many_signs(self):
        text = "x" + "+x" * 199
        self.assertEqual(len(text), 399)
        self.assertEqual(read_poly(text), (0, 200))
        self.assertEqual(read_poly("-" + text), (0, 198))
        with self.assertRaises(NoText):
            read_poly(text + "+x")
        with self.assertRaises(NoText):
            read_poly("-" + text + "+x")
        self.assertEqual(read_poly("10" + text[1:]), (10, 199))
        with self.assertRaises(NoText):
            read_poly("100" + text[1:])

    def test_powers(self):
        self.assertEqual(read_poly("x^16"), (0,) * 16 + (1,))
        self.assertEqual(read_poly("(x+1)^16")[:3], (1, 16, 120))
        self.assertEqual(read_poly("9^16"), (9 ** 16,))

    def test_figures(self):
        self.assertEqual(read_poly(SIXTY), (10 ** 59,))
        self.assertEqual(read_poly(NINES + "*x-" + NINES), (1 - 10 ** 60, 10 ** 60 - 1))
        for text in (SIXTY + "0", SIXTY + "0*x", "x-" + SIXTY + "0", "0*" + SIXTY + "0", "x^" + SIXTY):
            with self.assertRaises(NoText):
                read_poly(text)

    def test_too_great(self):
        for text in ("x^10*x^10", "x^16*x", "x*x^16", "(x^2)^9", "(x^16)^2", "x^10*x^10*0", "x^16*(x+1)", "x^16*x-x^16*x",
                     "0*(x^10*x^10)", "(x^10*x^10)^0", "(x^9+1)*(x^9-1)", "1-x^16*x", SIXTY + "*10", "10*" + SIXTY,
                     NINES + "+1", "-" + NINES + "-1", NINES + "+1-1", "(10^16)^4", "10^16*10^16*10^16*10^16",
                     NINES + "*x+x", "(" + SIXTY + "*x)^2", "0+" + NINES + "+1", NINES + "*x*10*0", "((x+1)^16)^2",
                     "(x-x^16)*x^5", "0*" + "(" + NINES + "+1)", "2*" + NINES + "*0"):
            self.assertTrue(is_form(text))
            for refusal in (TooGreat, CourtError):
                with self.assertRaises(refusal):
                    read_poly(text)

    def test_just_not_too_great(self):
        for text, p in (("0*x^10*x^10", ()), ("(0*x^10)*x^10", ()), ("x^10*0*x^10", ()), ("x^8*x^8", (0,) * 16 + (1,)),
                        ("(x^4)^4", (0,) * 16 + (1,)), (SIXTY + "*9", (9 * 10 ** 59,)), ("1-" + NINES, (2 - 10 ** 60,)),
                        (NINES + "-1+1", (10 ** 60 - 1,)), ("-" + NINES, (1 - 10 ** 60,)), ("0^16*x^16*x^0", ()),
                        ("(x^16)^1", (0,) * 16 + (1,)), ("(x^16)^0", (1,)), ("(10^15)^3*10^14", (10 ** 59,)),
                        ("0*" + NINES + "*" + NINES, ()), ("(x-x)*x^16", ())):
            self.assertEqual(read_poly(text), p)

    def test_no_text_goes_ahead_of_too_great(self):
        for text in ("x^10*x^10)", "x^16*x+", "x^16*x+(", NINES + "+1 ", "x^16*x*y", "(x^16*x", "x^16*x+x^17", "x^16*x^16x",
                     "x^16*x+" + "1" * 61, "x^16*x+" + "(" * 11 + "x" + ")" * 11, "x^16*x" + "+x" * 198):
            with self.assertRaises(NoText):
                read_poly(text)

    def compare(self, text):
        """That a text is read, or refused, as by the other reading."""
        if not is_form(text):
            with self.assertRaises(NoText):
                read_poly(text)
            return "none"
        try:
            expected = reckoned(text)
        except Beyond:
            with self.assertRaises(TooGreat):
                read_poly(text)
            return "great"
        self.assertEqual(read_poly(text), expected, text)
        return "read"

    def some_sum(self, random, depth):
        signs = random.choice(("", "", "-"))
        for turn in range(random.choice((1, 1, 2, 3))):
            factors_here = []
            for factor in range(random.choice((1, 1, 2, 3))):
                kind = random.random()
                if kind < 0.3 and depth > 0:
                    base = "(" + self.some_sum(random, depth - 1) + ")"
                elif kind < 0.6:
                    base = "x"
                else:
                    base = random.choice(("0", "1", "2", "10", "37", SIXTY, str(random.randint(0, 10 ** 9))))
                power = random.choice(("", "", "", "^0", "^1", "^2", "^3", "^" + str(random.randint(0, 17))))
                factors_here.append(base + power)
            signs += (random.choice("+-") if turn else "") + "*".join(factors_here)
        return signs

    def test_random_ones(self):
        random = source(602)
        seen = {"none": 0, "great": 0, "read": 0}
        for turn in range(1500):
            text = self.some_sum(random, random.choice((0, 1, 2, 3)))
            seen[self.compare(text)] += 1
            for change in range(2):
                place = random.randrange(len(text))
                sign = random.choice("x0123456789+-*^() ")
                spoilt = random.choice((text[:place] + text[place + 1:], text[:place] + sign + text[place:],
                                        text[:place] + sign + text[place + 1:]))
                seen[self.compare(spoilt)] += 1
        self.assertTrue(min(seen.values()) > 300, seen)

    def test_all_short_texts(self):
        texts = [""]
        for length in range(4):
            texts = [text + sign for text in texts for sign in "x02+-*^()"]
            for text in texts:
                self.compare(text)


class Numbers(unittest.TestCase):

    def test_points(self):
        for r in (Fraction(0), Fraction(5), Fraction(-3, 4), Fraction(10 ** 70, 3)):
            self.assertEqual(show_number(point(r)), show_fraction(told(r)))
        self.assertEqual(read_number("-3/4"), number((-3, 4)))
        self.assertEqual(read_number("0"), number((0, 1)))

    def test_fractions_told_by_stretches(self):
        for r in (Fraction(0), Fraction(1, 2), Fraction(-7, 3), Fraction(5), Fraction(999, 1000)):
            for p in (linear(r), multiplied(linear(r), (-2, 0, 1)), multiplied(linear(r), (1, 1, 1)),
                      multiplied(linear(r), (7, 0, 0, 3), (-10, 1))):
                found = [root for root in roots_of(p) if beside(root, told(r)) == 0]
                self.assertEqual([show_number(root) for root in found], [show_fraction(told(r))])

    def test_written(self):
        self.assertEqual(show_number(ROOT_TWO), "root 2 of x^2-2")
        self.assertEqual(show_number(stretch((-2, 0, 1), -2, -1)), "root 1 of x^2-2")
        self.assertEqual(show_number(stretch((-2, 0, 0, 1), 1, 2)), "root 1 of x^3-2")
        self.assertEqual(show_number(stretch((1, 0, -10, 0, 1), 3, 4)), "root 4 of x^4-10*x^2+1")
        self.assertEqual(show_number(stretch((1, 0, -10, 0, 1), 0, 1)), "root 3 of x^4-10*x^2+1")
        self.assertEqual(show_number(stretch((1, -3, 0, 1), 0, 1)), "root 2 of x^3-3*x+1")
        self.assertEqual(show_number(stretch(multiplied((-2, 0, 1), (-3, 0, 1)), 0, Fraction(3, 2))), "root 2 of x^2-2")

    def test_read(self):
        for text, lo, hi in (("root 1 of x^2-2", -2, -1), ("root 2 of x^2-2", 1, 2), ("root 1 of x^3-2", 1, 2),
                             ("root 3 of (x^2-2)*(x^2-3)", 1, Fraction(3, 2)), ("root 2 of (x^2-2)^3", 1, 2),
                             ("root 1 of -x+5", 4, 6), ("root 2 of x*x-2*x", 1, 3),
                             ("root 16 of " + "*".join(f"(x-{one})" for one in range(1, 17)), 15, 17)):
            found = read_number(text)
            self.assertIs(is_number(found), True)
            self.assertEqual((beside(found, told(Fraction(lo))), beside(found, told(Fraction(hi)))), (1, -1), text)

    def test_refused(self):
        for text in ("root 0 of x^2-2", "root 3 of x^2-2", "root 1 of x^2+1", "root 1 of 0", "root 1 of 5", "root 0 of 0",
                     "root 1 of x-x", "root 00 of x", "root 01 of x", "root -1 of x", "root +1 of x", "root 1/1 of x",
                     "root  1 of x", "root 1  of x", "root 1 of  x", "root 1 of x ", " root 1 of x", "root 1 of", "root 1",
                     "root", "root ", "root of x", "root 1 of ", "Root 1 of x", "root 1 OF x", "root 1of x", "root 1 ofx",
                     "root x of 1", "root 1 of x of x", "root 1 of root 1 of x", "root 1 of y", "root 1 of +x", "1/2/3", "x",
                     "", "a", "root 2 of x", "root " + "9" * 60 + " of x", "root " + "9" * 61 + " of x", "root 1 of x^17",
                     "-root 1 of x", "root 1 of 1/2*x", "2/4", "+1", "root 17 of x^16-1", "root 2 of x^2", "root 1 of x^2+x+1"):
            for refusal in (NoText, CourtError):
                with self.assertRaises(refusal):
                    read_number(text)
        for thing in no_texts():
            with self.assertRaises(NoText):
                read_number(thing)

    def test_which_refusal_goes_first(self):
        for text in ("root 0 of x^16*x", "root 99 of x^16*x", "root 1 of x^16*x", "root 1 of x^16*x*0", "root 0 of " + NINES + "+1"):
            with self.assertRaises(TooGreat):
                read_number(text)
        for text in ("root 00 of x^16*x", "root 1 of x^16*x)", "root x of x^16*x", "root 1 of x^16*x ",
                     "root " + "9" * 61 + " of x^16*x", "root -1 of x^16*x", "root 1  of x^16*x"):
            with self.assertRaises(NoText):
                read_number(text)

    def test_too_great_to_be_written(self):
        for n in (stretch((-2,) + (0,) * 8 + (1,), 1, 2), stretch((-10 ** 6, 0, 1), 0, 10 ** 6),
                  stretch((-10 ** 6, 1), 0, 10 ** 7), stretch((-3, 0, 10 ** 6), 0, 1),
                  stretch(multiplied((-1, 1), (-2,) + (0,) * 7 + (1,)), Fraction(1, 2), Fraction(21, 20))):
            self.assertIs(is_number(n), True)
            for refusal in (TooGreat, CourtError):
                with self.assertRaises(refusal):
                    show_number(n)
        self.assertEqual(show_number(stretch((-999999, 1), 0, 10 ** 7)), "999999")
        self.assertEqual(show_number(stretch((-2,) + (0,) * 7 + (1,), 1, 2)), "root 2 of x^8-2")
        # A point is written, however great it is.
        self.assertEqual(show_number(point(10 ** 6)), "1000000")

    def test_the_same_are_written_alike(self):
        random = source(603)
        parts = [(-2, 0, 1), (-3, 0, 1), (1, -3, 0, 1), (-1, 2), (0, 1), (1, 0, -10, 0, 1), (-1, -1, 1), (3, 1)]
        some = []
        for turn in range(25):
            p = multiplied(*random.sample(parts, random.randint(1, 3)))
            if len(p) <= 9:
                some += roots_of(p)
        some += [number((1, 2)), number((0, 1)), number((-3, 1))]
        texts = [show_number(n) for n in some]
        for n, text in zip(some, texts):
            self.assertEqual(order(read_number(text), n), 0)
            self.assertEqual(show_number(read_number(text)), text)
        for one, text in list(zip(some, texts))[::3]:
            for other, further in zip(some, texts):
                self.assertEqual(text == further, order(one, other) == 0)

    def test_the_place_among_the_roots(self):
        random = source(604)
        for turn in range(60):
            p = some_poly(random, 5, 1)
            roots = roots_of(p)
            texts = [show_number(root) for root in roots]
            self.assertEqual(len(set(texts)), len(texts))
            for part, times in factors(p)[1]:
                if len(part) > 2:
                    here = [text for text in texts if text.endswith(" of " + show_poly(part))]
                    self.assertEqual(here, [f"root {place} of {show_poly(part)}" for place in range(1, len(here) + 1)])
                    self.assertEqual(len(here), len(roots_of(part)))


if __name__ == "__main__":
    unittest.main()
