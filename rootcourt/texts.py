"""Fractions, polynomials and numbers as texts, written and read."""

from rootcourt.cuts import roots_of
from rootcourt.errors import NoText, TooGreat
from rootcourt.factors import factors
from rootcourt.numbers import is_point, number
from rootcourt.order import order, sign_of
from rootcourt.polys import degree, p_minus, p_plus, p_times, poly
from rootcourt.ratios import fraction

FIGURES = "0123456789"
MOST_FIGURES = 60
MOST_SIGNS = 400
MOST_BRACKETS = 10
GREATEST_POWER = 16
ROOT = "root "
OF = " of "


def show_fraction(r):
    top, bottom = r
    return str(top) if bottom == 1 else f"{top}/{bottom}"


def show_poly(p):
    if p == ():
        return "0"
    shown = "".join([show_term(p[many], many) for many in range(degree(p), -1, -1) if p[many] != 0])
    return shown[1:] if shown.startswith("+") else shown


def show_term(weight, many):
    ahead = "-" if weight < 0 else "+"
    size = abs(weight)
    if many == 0:
        return f"{ahead}{size}"
    raised_x = "x" if many == 1 else f"x^{many}"
    return ahead + raised_x if size == 1 else f"{ahead}{size}*{raised_x}"


def show_number(n):
    if is_point(n):
        return show_fraction(n[1])
    part = [one for one, times in factors(n[0])[1] if sign_of(one, n) == 0][0]
    if degree(part) == 1:
        return show_fraction(fraction(-part[0], part[1]))
    place = len([root for root in roots_of(part) if order(root, n) != 1])
    shown = show_poly(part)
    return f"{ROOT}{place}{OF}{shown}"


def read_fraction(text):
    refuse_unless(isinstance(text, str))
    size = text[1:] if text.startswith("-") else text
    top, slash, bottom = size.partition("/")
    if slash == "":
        bottom = "1"
    refuse_unless(are_figures(top) and are_figures(bottom) and bottom != "0")
    found = fraction(int(top) if size == text else -int(top), int(bottom))
    # Whatever isn't in lowest terms, or is -0, is written otherwise.
    refuse_unless(show_fraction(found) == text)
    return found


def refuse_unless(fits):
    if not fits:
        raise NoText("no such text is read")


def are_figures(text):
    if text == "" or len(text) > MOST_FIGURES or not all([sign in FIGURES for sign in text]):
        return False
    return text == "0" or text[0] != "0"


# All of the form is looked at before anything is reckoned, as what is no text is
# refused ahead of what is too great.
def read_poly(text):
    refuse_unless(isinstance(text, str) and len(text) <= MOST_SIGNS)
    terms, place = sum_form(text, 0, 0)
    refuse_unless(place == len(text))
    return reckoned_sum(terms)


# Each form is told with the place behind it. That of a sum is a list of pairs, the sign
# ahead and the form of a product.
def sum_form(text, start, depth):
    ahead = "-" if sign_at(text, start) == "-" else "+"
    product, place = product_form(text, start + 1 if ahead == "-" else start, depth)
    terms = [(ahead, product)]
    while sign_at(text, place) in ("+", "-"):
        ahead = sign_at(text, place)
        product, place = product_form(text, place + 1, depth)
        terms.append((ahead, product))
    return (terms, place)


# The sign at a place, "" behind the last one.
def sign_at(text, place):
    return text[place:place + 1]


# That of a product is a list of pairs, a base and its power; a base is a polynomial, or
# the form of a sum in brackets.
def product_form(text, start, depth):
    factor, place = factor_form(text, start, depth)
    found = [factor]
    while sign_at(text, place) == "*":
        factor, place = factor_form(text, place + 1, depth)
        found.append(factor)
    return (found, place)


def factor_form(text, start, depth):
    base, place = base_form(text, start, depth)
    if sign_at(text, place) != "^":
        return ((base, 1), place)
    many, place = number_form(text, place + 1)
    refuse_unless(many <= GREATEST_POWER)
    return ((base, many), place)


def base_form(text, start, depth):
    if sign_at(text, start) == "x":
        return ((0, 1), start + 1)
    if sign_at(text, start) != "(":
        found, place = number_form(text, start)
        return (poly((found,)), place)
    refuse_unless(depth < MOST_BRACKETS)
    terms, place = sum_form(text, start + 1, depth + 1)
    refuse_unless(sign_at(text, place) == ")")
    return (terms, place + 1)


def number_form(text, start):
    place = start
    while place < len(text) and text[place] in FIGURES:
        place = place + 1
    refuse_unless(are_figures(text[start:place]))
    return (int(text[start:place]), place)


def reckoned_sum(terms):
    total = ()
    for ahead, product in terms:
        part = reckoned_product(product)
        total = bounded(p_plus(total, part) if ahead == "+" else p_minus(total, part))
    return total


def reckoned_product(pairs):
    product = (1,)
    for base, many in pairs:
        product = bounded(p_times(product, reckoned_power(base, many)))
    return product


def reckoned_power(base, many):
    one = reckoned_sum(base) if isinstance(base, list) else base
    product = (1,)
    for time in range(many):
        product = bounded(p_times(product, one))
    return product


def bounded(p):
    if degree(p) > GREATEST_POWER or any([abs(weight) >= 10 ** 60 for weight in p]):
        raise TooGreat("read are degrees up to 16 and weights of up to sixty figures")
    return p


def read_number(text):
    refuse_unless(isinstance(text, str))
    if not text.startswith(ROOT):
        return number(read_fraction(text))
    place, between, shown = text[len(ROOT):].partition(OF)
    refuse_unless(between == OF and are_figures(place))
    p = read_poly(shown)
    refuse_unless(p != ())
    roots = roots_of(p)
    refuse_unless(int(place) >= 1 and int(place) <= len(roots))
    return roots[int(place) - 1]
