"""The product of two numbers, papers for it, differences and quotients."""

from rootcourt.forms import form
from rootcourt.numbers import is_point, number, span_of
from rootcourt.opposites import inverse_of, minus_of
from rootcourt.pairs import bound, holds, is_bound, is_placed, met, refuse_too_great
from rootcourt.pairs import free_of_sums, power_sums, spread_roots
from rootcourt.polys import degree
from rootcourt.ratios import fraction, times
from rootcourt.sums import sum_of


def product_of(a, b):
    return multiplied(a, b)[0]


def product_paper(a, b):
    found = multiplied(a, b)
    return found + bound(product_form(found[0][0]), a[0], b[0])


# (n, one, other): the product, and where a and b lie so that it is shown.
def multiplied(a, b):
    refuse_too_great(a, b)
    if is_point(a) and is_point(b):
        return (number(times(a[1], b[1])), a[1:], b[1:])
    # Times 0 every stretch is a point, and no narrowing would change that.
    if a == number((0, 1)) or b == number((0, 1)):
        return (number((0, 1)), a[1:], b[1:])
    return met(a, b, product_poly(a[0], b[0]), product_ends, first_matters)


def product_poly(p, q):
    many = degree(p) * degree(q)
    one = power_sums(spread_roots(p, p[-1]), many)
    other = power_sums(spread_roots(q, q[-1]), many)
    return free_of_sums([left * right for left, right in zip(one, other)], p[-1] * q[-1])


# Where the product of what lies in two spans lies.
def product_ends(one, other):
    corners = [left * right for left, right in (
        (one[0], other[0]), (one[0], other[1]), (one[1], other[0]), (one[1], other[1]))]
    bottom = one[2] * other[2]
    return ((min(corners), bottom), (max(corners), bottom))


# Whether the product is spread by the width of the first span no less than by the second's.
def first_matters(one, other):
    return (one[1] - one[0]) * farthest(other) >= (other[1] - other[0]) * farthest(one)


def farthest(span):
    return max(abs(span[0]), abs(span[1]))


# r(x y)
def product_form(r):
    return form([((power, power, 0), weight) for power, weight in enumerate(r)])


def product_right(a, b, paper):
    if not is_placed(a, b, paper):
        return False
    n, one, other = paper[:3]
    least, greatest = product_ends(span_of(one[0], one[1]), span_of(other[0], other[1]))
    if not holds(n, fraction(least[0], least[1]), fraction(greatest[0], greatest[1])):
        return False
    return is_bound(product_form(n[0]), a, b, paper)


def difference(a, b):
    return sum_of(a, minus_of(b))


def quotient(a, b):
    return product_of(a, inverse_of(b))
