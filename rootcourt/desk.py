"""The desk: it keeps numbers by names, is told rows and answers each by a text."""

from rootcourt.cuts import roots_of
from rootcourt.errors import NoLine, NoText
from rootcourt.factors import factors
from rootcourt.linear import solved
from rootcourt.opposites import inverse_of, minus_of
from rootcourt.order import order, sign_of
from rootcourt.parts import shared
from rootcourt.polys import value
from rootcourt.products import difference, product_of, quotient
from rootcourt.sums import sum_of
from rootcourt.texts import read_fraction, read_number, read_poly, show_fraction, show_number, show_poly

LETTERS = "abcdefghijklmnopqrstuvwxyz"
MOST_LETTERS = 8
BREAK = "; "
EQUALS = " = "
ORDER_WORDS = {-1: "less", 0: "same", 1: "more"}


def poly_deed(things):
    return show_poly(things[0])


def value_deed(things):
    return show_fraction(value(things[0], things[1]))


def shared_deed(things):
    return show_poly(shared(things[0], things[1]))


def factors_deed(things):
    whole, found = factors(things[0])
    shown = [str(whole)]
    for part, times in found:
        part_text = show_poly(part)
        shown.append(f"{part_text} {times}")
    return BREAK.join(shown)


def roots_deed(things):
    shown = [show_number(root) for root in roots_of(things[0])]
    return BREAK.join(shown) if len(shown) > 0 else "none"


def number_deed(things):
    return show_number(things[0])


def order_deed(things):
    return ORDER_WORDS[order(things[0], things[1])]


def sign_deed(things):
    return str(sign_of(things[0], things[1]))


def sum_deed(things):
    return show_number(sum_of(things[0], things[1]))


def difference_deed(things):
    return show_number(difference(things[0], things[1]))


def product_deed(things):
    return show_number(product_of(things[0], things[1]))


def quotient_deed(things):
    return show_number(quotient(things[0], things[1]))


def minus_deed(things):
    return show_number(minus_of(things[0]))


def inverse_deed(things):
    return show_number(inverse_of(things[0]))


# Of each word what it needs, by letters, P a polynomial, F a fraction, A a number; and
# its deed.
ROWS = {
    "poly": ("P", poly_deed),
    "value": ("PF", value_deed),
    "shared": ("PP", shared_deed),
    "factors": ("P", factors_deed),
    "roots": ("P", roots_deed),
    "number": ("A", number_deed),
    "order": ("AA", order_deed),
    "sign": ("PA", sign_deed),
    "sum": ("AA", sum_deed),
    "difference": ("AA", difference_deed),
    "product": ("AA", product_deed),
    "quotient": ("AA", quotient_deed),
    "minus": ("A", minus_deed),
    "inverse": ("A", inverse_deed),
}


class Desk:

    def __init__(self):
        self.kept = {}

    def say(self, row):
        refuse_unless(isinstance(row, str))
        word, blank, needed = row.partition(" ")
        refuse_unless(blank == " ")
        if word == "keep":
            return self.keep(needed)
        if word == "solve":
            return solve_deed(needed)
        refuse_unless(word in ROWS)
        kinds, deed = ROWS[word]
        texts = needed.split(BREAK)
        refuse_unless(len(texts) == len(kinds))
        return deed([self.thing_of(kind, text) for kind, text in zip(kinds, texts)])

    def keep(self, needed):
        name, blank, text = needed.partition(" ")
        refuse_unless(blank == " " and is_name(name))
        self.kept[name] = self.thing_of("A", text)
        return "ok"

    def thing_of(self, kind, text):
        if kind == "A" and text in self.kept:
            return self.kept[text]
        return read_by_kind(kind, text)


def refuse_unless(fits):
    if not fits:
        raise NoLine("the desk is told no such row")


def is_name(text):
    return text != "" and len(text) <= MOST_LETTERS and all([sign in LETTERS for sign in text])


def read_by_kind(kind, text):
    try:
        if kind == "P":
            return read_poly(text)
        return read_fraction(text) if kind == "F" else read_number(text)
    except NoText:
        raise NoLine("a text in the row isn't read")


def solve_deed(needed):
    rows = []
    right = []
    for text in needed.split(BREAK):
        weights, equals, last = text.partition(EQUALS)
        refuse_unless(equals == EQUALS)
        rows.append([read_by_kind("F", weight) for weight in weights.split(" ")])
        right.append(read_by_kind("F", last))
    paper = solved(rows, right)
    if paper[0] == "none":
        return "none"
    shown = BREAK.join([show_fractions(one) for one in [paper[1]] + paper[3]])
    return f"all {shown}"


def show_fractions(some):
    return " ".join([show_fraction(one) for one in some])
