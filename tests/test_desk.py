import unittest

from rootcourt.desk import Desk
from rootcourt.errors import CourtError, NoFree, NoInverse, NoLine, NoShape, TooGreat
from rootcourt.linear import solved
from rootcourt.texts import read_fraction, show_fraction
from tests.helper import source
from tests.test_linear import some_equations
from tests.test_texts import NINES, SIXTY, no_texts

ROOT = "root 2 of x^2-2"
OTHER = "root 2 of x^2-3"
GREAT = "x^16*x"
# Each word with what it needs: P a polynomial, F a fraction, A a number.
NEEDS = {"poly": "P", "value": "PF", "shared": "PP", "factors": "P", "roots": "P", "number": "A", "order": "AA",
         "sign": "PA", "sum": "AA", "difference": "AA", "product": "AA", "quotient": "AA", "minus": "A", "inverse": "A"}
SAMPLES = {"P": "x^2-2", "F": "1/2", "A": ROOT}


def row(word, *things):
    return word + " " + "; ".join(things)


class Rows(unittest.TestCase):

    def setUp(self):
        self.desk = Desk()

    def answers(self, pairs):
        for told, answer in pairs:
            found = self.desk.say(told)
            self.assertIs(type(found), str)
            self.assertEqual(found, answer, told)

    def refused(self, rows, refusal=NoLine):
        for told in rows:
            for taken in (refusal, CourtError):
                with self.assertRaises(taken, msg=repr(told)):
                    self.desk.say(told)

    def test_poly(self):
        self.answers((("poly x", "x"), ("poly 0", "0"), ("poly (x-1)^2*(x+2)-x", "x^3-4*x+2"), ("poly -x+x", "0"),
                      ("poly " + SIXTY, SIXTY), ("poly -(x+1)", "-x-1")))
        self.refused(("poly x^16*x", "poly " + NINES + "+1"), TooGreat)
        self.refused(("poly x^17", "poly a", "poly 1/2", "poly " + SIXTY + "0"))

    def test_value(self):
        self.answers((("value x^2-2; 3/2", "1/4"), ("value 0; 5", "0"), ("value x; -7/3", "-7/3"), ("value 3; 0", "3"),
                      ("value x^2; " + NINES, str((10 ** 60 - 1) ** 2)), ("value (x-1)^2; 1", "0")))
        self.refused(("value x; x", "value x; 2/4", "value x; " + ROOT, "value 1/2; x", "value x; 1/0"))

    def test_shared(self):
        self.answers((("shared x^2-1; x^2+2*x+1", "x+1"), ("shared 0; 0", "0"), ("shared 0; -2*x", "x"), ("shared 4; 6", "1"),
                      ("shared 2*x+2; 4*x+4", "x+1"), ("shared x; x+1", "1")))

    def test_factors(self):
        self.answers((("factors 2*x^2-2", "2; x-1 1; x+1 1"), ("factors 0", "0"), ("factors -6", "-6"), ("factors x", "1; x 1"),
                      ("factors -3*(x+1)^2*(x^2+1)", "-3; x+1 2; x^2+1 1"), ("factors x^4+1", "1; x^4+1 1"),
                      ("factors (2*x-1)^8", "1; 2*x-1 8"), ("factors 999999", "999999")))
        self.refused(("factors x^9", "factors 1000000", "factors x-1000000", "factors x^16*x"), TooGreat)

    def test_roots(self):
        self.answers((("roots x^2-2", "root 1 of x^2-2; root 2 of x^2-2"), ("roots x^2+1", "none"), ("roots 5", "none"),
                      ("roots x^3-2*x", "root 1 of x^2-2; 0; root 2 of x^2-2"), ("roots (x-1)^2*(2*x+3)^3", "-3/2; 1"),
                      ("roots x^16+1", "none"), ("roots (x^2-2)^8", "root 1 of x^2-2; root 2 of x^2-2"),
                      ("roots -x", "0")))
        self.refused(("roots 0", "roots x-x"), NoFree)
        self.refused(("roots x^9-2", "roots x-1000000", "roots x^16*x", "roots x^9-x"), TooGreat)

    def test_number(self):
        self.answers((("number 1/2", "1/2"), ("number -3", "-3"), ("number " + ROOT, ROOT), ("number 0", "0"),
                      ("number root 2 of (x-1)*(x-2)", "2"), ("number root 2 of x^4-4", ROOT), ("number " + NINES, NINES),
                      ("number root 1 of 2*x-1", "1/2")))
        self.refused(("number a", "number root 3 of x^2-2", "number root 0 of x", "number root 1 of 0", "number 2/4", "number x",
                      "number root 1 of x^2+1"))
        self.refused(("number root 1 of x^9-2", "number root 1 of x-1000000", "number root 1 of x^16*x"), TooGreat)

    def test_order(self):
        self.answers((("order 1; 2", "less"), ("order 2; 1", "more"), ("order 1/2; 1/2", "same"), ("order " + ROOT + "; 3/2", "less"),
                      ("order 7/5; " + ROOT, "less"), ("order " + ROOT + "; root 2 of (x^2-2)*(x^2-3)", "more"),
                      ("order " + ROOT + "; root 3 of (x^2-2)*(x^2-3)", "same"), ("order root 1 of x^16-2; root 2 of x^16-2", "less")))

    def test_sign(self):
        self.answers((("sign x^2-3; " + ROOT, "-1"), ("sign x^2-2; " + ROOT, "0"), ("sign x^2-1; " + ROOT, "1"),
                      ("sign 0; 1/2", "0"), ("sign 2*x-1; 1/2", "0"), ("sign -5; 0", "-1"), ("sign x; " + ROOT, "1")))
        self.refused(("sign " + ROOT + "; x", "sign 1/2; x", "sign x; x"))

    def test_deeds_with_two_numbers(self):
        self.answers((("sum 1/2; 1/3", "5/6"), ("sum " + ROOT + "; " + OTHER, "root 4 of x^4-10*x^2+1"),
                      ("sum " + ROOT + "; 1", "root 2 of x^2-2*x-1"), ("sum " + ROOT + "; root 1 of x^2-2", "0"),
                      ("difference 1/2; 1/3", "1/6"), ("difference " + ROOT + "; " + ROOT, "0"),
                      ("difference 1; " + ROOT, "root 1 of x^2-2*x-1"), ("product 2/3; -3/2", "-1"),
                      ("product " + ROOT + "; " + ROOT, "2"), ("product " + ROOT + "; " + OTHER, "root 2 of x^2-6"),
                      ("product 0; " + ROOT, "0"), ("quotient 1/2; 1/3", "3/2"), ("quotient " + ROOT + "; " + ROOT, "1"),
                      ("quotient 0; " + ROOT, "0"), ("quotient 1; " + ROOT, "root 2 of 2*x^2-1"),
                      ("quotient root 1 of x^2-2; 2", "root 1 of 2*x^2-1")))
        self.refused(("quotient 1; 0", "quotient 0; 0", "quotient " + ROOT + "; root 2 of x^3-x",
                      "quotient root 1 of x^9-2; root 2 of x^3-x"), NoInverse)
        great = "root 1 of x^5-2"
        self.refused([row(word, great, great) for word in ("sum", "difference", "product", "quotient")], TooGreat)
        # Here it is the writing that refuses.
        great = "root 1 of x^3-2"
        self.refused([row("sum", great, "root 1 of x^3-3")], TooGreat)

    def test_deeds_with_one_number(self):
        self.answers((("minus 1/2", "-1/2"), ("minus 0", "0"), ("minus " + ROOT, "root 1 of x^2-2"),
                      ("minus root 1 of x^3-2", "root 1 of x^3+2"), ("inverse 2", "1/2"), ("inverse -2/3", "-3/2"),
                      ("inverse " + ROOT, "root 2 of 2*x^2-1"), ("inverse root 1 of x^2-2", "root 1 of 2*x^2-1")))
        self.refused(("inverse 0", "inverse root 2 of x^3-x"), NoInverse)
        self.refused(("minus root 1 of x^9-2", "inverse root 1 of x^9-2"), TooGreat)

    def test_solve(self):
        self.answers((("solve 1 2 = 3; 0 1/2 = 1", "all -1 2"), ("solve 0 = 1", "none"), ("solve 0 = 0", "all 0; 1"),
                      ("solve 2 = 1", "all 1/2"), ("solve 1 2 3 = 4", "all 4 0 0; -2 1 0; -3 0 1"),
                      ("solve 1 1 = 1; 1 1 = 2", "none"), ("solve 1 2 = 3; 2 4 = 6", "all 3 0; -2 1"),
                      ("solve 1 0 0 0 0 0 = -1/2", "all -1/2 0 0 0 0 0; 0 1 0 0 0 0; 0 0 1 0 0 0; 0 0 0 1 0 0; "
                                                   "0 0 0 0 1 0; 0 0 0 0 0 1"),
                      ("solve 1 = 1; 2 = 2; 3 = 3; 4 = 4; 5 = 5; 6 = 6", "all 1")))
        self.refused(("solve 1 2 = 3; 1 = 2", "solve 1 = 3; 1 2 = 2", "solve " + "; ".join(["1 = 1"] * 7),
                      "solve 1 1 1 1 1 1 1 = 1", "solve 1 2 = 3; 4 5 6 = 7"), NoShape)
        self.refused(("solve", "solve ", "solve 1", "solve 1 2", "solve = 1", "solve  = 1", "solve 1 =", "solve 1 = ", "solve 1=1",
                      "solve 1 =1", "solve 1= 1", "solve 1 = 1 2", "solve 1  2 = 3", "solve 1 2 = 3;", "solve 1 2 = 3; ",
                      "solve 1 2 = 3;4 5 = 6", "solve 1 2 = 3 ; 4 5 = 6", "solve 1 2 = 3;  4 5 = 6", "solve 1 = 2 = 3",
                      "solve 2/4 = 1", "solve x = 1", "solve 1 = x", "solve " + ROOT + " = 1", "solve a = 1", "solve 1/0 = 1",
                      "solve  1 = 1", "solve 1 = 1 ", "solve 1 2 = 3, 4 5 = 6", "solve +1 = 1", "solve 1 == 1",
                      "solve 1 = " + SIXTY + "0"))
        # A row that isn't read goes ahead of a shape that isn't solved.
        self.refused(("solve 1 2 = 3; 1 = x", "solve " + "; ".join(["1 = 1"] * 7 + ["1"]), "solve 1 = 1; 1 2 = 2; 1"))

    def test_solve_as_solved_tells(self):
        for rows, right in some_equations(700, 80):
            if any(abs(number) >= 10 ** 60 for line in rows + [right] for entry in line for number in entry):
                continue
            told = "solve " + "; ".join(" ".join(show_fraction(entry) for entry in line) + " = " + show_fraction(last)
                                        for line, last in zip(rows, right))
            paper = solved(rows, right)
            found = self.desk.say(told)
            if paper[0] == "none":
                self.assertEqual(found, "none")
            else:
                self.assertEqual(found[:4], "all ")
                lists = [[read_or_great(text) for text in one.split(" ")] for one in found[4:].split("; ")]
                self.assertEqual(lists, [paper[1]] + paper[3])


def read_or_great(text):
    """A fraction's text, also with more figures than are read."""
    top, slash, bottom = text.partition("/")
    return (int(top), int(bottom or 1)) if len(text) > 60 else read_fraction(text)


class Forms(unittest.TestCase):

    def refused(self, desk, told, refusal=NoLine):
        for taken in (refusal, CourtError):
            with self.assertRaises(taken, msg=repr(told)):
                desk.say(told)

    def test_how_many_things(self):
        desk = Desk()
        for word, needs in NEEDS.items():
            things = [SAMPLES[kind] for kind in needs]
            self.assertIs(type(desk.say(row(word, *things))), str)
            for other in (things[:-1], things + things[:1], things + ["1"], [], things + things):
                self.refused(desk, row(word, *other))
            for told in (word, word + " ", word + "  " + "; ".join(things), " " + row(word, *things), row(word, *things) + " ",
                         row(word, *things) + ";", row(word, *things) + "; ", "; " + row(word, *things), word + ": " + things[0],
                         row(word.upper(), *things), row(word.capitalize(), *things), row(word + "s", *things),
                         row(word[:-1], *things), word + "\t" + "; ".join(things), "; ".join(things), row(word, "", *things)):
                self.refused(desk, told)
            if len(things) > 1:
                for between in (";", " ; ", ";  ", ", ", " ", ";; ", "; ; "):
                    self.refused(desk, word + " " + between.join(things))

    def test_words_that_are_none(self):
        for told in ("", " ", "x", "poly", "poli x", "help x", "say x", "keep", "order", "plus 1; 2", "sum", ";", "; ", "Poly x",
                     "quit 1", "kept a", "ok 1", "1", "1/2", ROOT, "none", "all 1"):
            self.refused(Desk(), told)

    def test_no_texts(self):
        for thing in no_texts():
            self.refused(Desk(), thing)

    def test_form_goes_ahead_of_the_things(self):
        desk = Desk()
        for told in (row("poly", GREAT, "x"), row("value", GREAT), row("value", GREAT, "1", "2"), row("shared", GREAT),
                     row("factors", GREAT, GREAT), row("number", "root 1 of " + GREAT, "1"), row("sign", GREAT),
                     row("order", "root 1 of " + GREAT), "keep A root 1 of " + GREAT, "keep ninechars root 1 of " + GREAT,
                     "keep a root 1 of " + GREAT + "; 1", "keep  root 1 of " + GREAT, "keep a  root 1 of " + GREAT,
                     "polys " + GREAT, "keep a1 root 1 of " + GREAT):
            self.refused(desk, told)

    def test_things_go_from_the_left(self):
        desk = Desk()
        great = "root 1 of " + GREAT
        for told in (row("value", GREAT, "2/4"), row("shared", GREAT, "y"), row("shared", "x", GREAT), row("sign", GREAT, "a"),
                     row("sign", "x", great), row("order", great, "a"), row("order", "1", great), row("sum", great, "x"),
                     row("quotient", great, "0"), row("product", "0", great), "keep a " + great):
            self.refused(desk, told, TooGreat)
        for told in (row("value", "y", "1"), row("shared", "y", GREAT), row("sign", "y", great), row("order", "a", great),
                     row("sum", "root 3 of x^2-2", great), row("order", "root 1 of 0", great), row("quotient", "x", "0")):
            self.refused(desk, told)

    def test_things_go_ahead_of_the_deed(self):
        desk = Desk()
        self.refused(desk, row("quotient", "a", "0"))
        self.refused(desk, row("quotient", "1", "0"), NoInverse)
        self.refused(desk, row("quotient", "root 1 of x^5-2", "0"), NoInverse)
        self.refused(desk, row("sum", "root 1 of x^5-2", "root 1 of x^5-y"))


class Keeping(unittest.TestCase):

    def setUp(self):
        self.desk = Desk()

    def refused(self, told, refusal=NoLine):
        for taken in (refusal, CourtError):
            with self.assertRaises(taken, msg=repr(told)):
                self.desk.say(told)

    def test_names(self):
        for name in ("a", "z", "ab", "abcdefgh", "root", "poly", "keep", "none", "x", "zzzzzzzz"):
            self.assertEqual(self.desk.say("keep " + name + " " + ROOT), "ok")
            self.assertEqual(self.desk.say("number " + name), ROOT)
        for name in ("abcdefghi", "A", "aB", "a1", "a_b", "a-b", "", "a;", "abcdefghijk", "a.b", "-a", "~"):
            self.refused("keep " + name + " 1/2")
            self.refused("number " + name)
        for told in ("keep", "keep ", "keep a", "keep a ", "keep  a 1", "keep a  1", "keep a; 1", "keep 1 2", "keep 1 a", "keep 1", "keep 1/2 a",
                     "keep a b", "keep a 1 ", "keep a y", "keep a 1; 2", "keep a root 1 of x^2+1", "keep a 2/4", " keep a 1"):
            self.refused(told)

    def test_none_is_kept_at_first(self):
        for told in ("number a", "order a; 1", "order 1; a", "sum a; a", "minus a", "inverse a", "sign x; a", "keep b a"):
            self.refused(told)

    def test_what_is_kept(self):
        desk = self.desk
        self.assertEqual(desk.say("keep a " + ROOT), "ok")
        self.assertEqual(desk.say("keep b 3/2"), "ok")
        self.assertEqual(desk.say("keep c a"), "ok")
        self.assertEqual([desk.say(told) for told in ("number a", "number b", "number c", "order a; b", "order c; a", "sum a; c",
                                                      "product a; c", "sign x^2-2; c", "minus b", "inverse b", "quotient b; b",
                                                      "difference b; 1/2", "difference 1/2; b", "product 2; b")],
                         [ROOT, "3/2", ROOT, "less", "same", "root 2 of x^2-8", "2", "0", "-3/2", "2/3", "1", "1", "-1", "3"])
        self.assertEqual(desk.say("keep a 7"), "ok")
        self.assertEqual([desk.say(told) for told in ("number a", "number c")], ["7", ROOT])
        self.assertEqual(desk.say("keep b b"), "ok")
        self.assertEqual(desk.say("number b"), "3/2")

    def test_names_are_for_numbers_alone(self):
        self.desk.say("keep a 2")
        self.desk.say("keep x 5")
        for told in ("poly a", "value x; a", "value a; 1", "shared a; x", "roots a", "solve a = 1", "number root a of x",
                     "number root 1 of a", "number a+1", "number -a", "sign a; 1", "number a/2", "number A"):
            self.refused(told)
        self.assertEqual([self.desk.say(told) for told in ("poly x", "number x", "sign x-5; x", "value x; 1")], ["x", "5", "0", "1"])

    def test_great_numbers_are_kept(self):
        # Kept they may be, only written they are not.
        self.assertEqual(self.desk.say("keep a root 2 of x^16-2"), "ok")
        self.refused("number a", TooGreat)
        self.assertEqual(self.desk.say("order a; 1"), "more")
        self.assertEqual(self.desk.say("sign x^16-2; a"), "0")
        self.assertEqual(self.desk.say("keep b " + NINES), "ok")
        self.assertEqual(self.desk.say("minus b"), "-" + NINES)
        self.assertEqual(self.desk.say("product b; b"), str((10 ** 60 - 1) ** 2))

    def test_what_is_refused_changes_nothing(self):
        desk = self.desk
        desk.say("keep a 2")
        for told, refusal in (("keep a x", NoLine), ("keep a root 1 of " + GREAT, TooGreat), ("keep a root 3 of x^2-2", NoLine),
                              ("keep a b", NoLine), ("keep b root 1 of " + GREAT, TooGreat), ("keep a 3; 4", NoLine),
                              ("keep a 3 ", NoLine), ("inverse 0", NoInverse), ("keep a", NoLine), ("solve 1 = 1; 1 2 = 1", NoShape)):
            self.refused(told, refusal)
            self.assertEqual(desk.say("number a"), "2")
            self.refused("number b")

    def test_two_desks(self):
        other = Desk()
        self.desk.say("keep a 1")
        self.refused("number b")
        with self.assertRaises(NoLine):
            other.say("number a")
        other.say("keep a 2")
        other.say("keep b 3")
        self.assertEqual((self.desk.say("number a"), other.say("number a")), ("1", "2"))
        self.refused("number b")

    def test_asked_again(self):
        random = source(701)
        rows = ["roots x^3-3*x+1", "factors x^6-1", "solve 1 2 = 3", "sum " + ROOT + "; " + OTHER, "order a; " + ROOT, "number a"]
        self.desk.say("keep a root 2 of x^3-3*x+1")
        first = {told: self.desk.say(told) for told in rows}
        for turn in range(20):
            told = random.choice(rows)
            self.assertEqual(self.desk.say(told), first[told])


if __name__ == "__main__":
    unittest.main()
