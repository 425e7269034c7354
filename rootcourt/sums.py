"""The sum of two numbers, and papers for it."""

from rootcourt.forms import form
from rootcourt.numbers import is_point, is_wider, number
from rootcourt.pairs import bound, holds, is_bound, is_placed, met, refuse_too_great
from rootcourt.pairs import free_of_sums, power_sums, spread_roots
from rootcourt.polys import degree
from rootcourt.ratios import plus
from rootcourt.whole import common


def sum_of(a, b):
    return added(a, b)[0]


def sum_paper(a, b):
    found = added(a, b)
    return found + bound(sum_form(found[0][0]), a[0], b[0])


# (n, one, other): the sum, and where a and b lie so that it is shown.
def added(a, b):
    refuse_too_great(a, b)
    if is_point(a) and is_point(b):
        return (number(plus(a[1], b[1])), a[1:], b[1:])
    return met(a, b, sum_poly(a[0], b[0]), sum_ends, is_wider)


def sum_poly(p, q):
    factor = common(p[-1], q[-1])
    many = degree(p) * degree(q)
    one = power_sums(spread_roots(p, factor), many)
    other = power_sums(spread_roots(q, factor), many)
    sums = []
    row = [1]
    for power in range(many + 1):
        sums.append(sum([ways * one[place] * other[power - place] for place, ways in enumerate(row)]))
        row = next_ways(row)
    return free_of_sums(sums, factor)


# The weights of the next power of x + y.
def next_ways(row):
    return [left + right for left, right in zip([0] + row, row + [0])]


# Where the sum of what lies in two spans lies.
def sum_ends(one, other):
    bottom = one[2] * other[2]
    return ((one[0] * other[2] + other[0] * one[2], bottom), (one[1] * other[2] + other[1] * one[2], bottom))


# r(x + y)
def sum_form(r):
    terms = []
    row = [1]
    for power, weight in enumerate(r):
        terms.extend([((place, power - place, 0), weight * ways) for place, ways in enumerate(row)])
        row = next_ways(row)
    return form(terms)


def sum_right(a, b, paper):
    if not is_placed(a, b, paper):
        return False
    n, one, other = paper[:3]
    least = plus(one[0], other[0])
    greatest = plus(one[1], other[1])
    return holds(n, least, greatest) and is_bound(sum_form(n[0]), a, b, paper)
