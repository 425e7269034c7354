"""The minus and the inverse of a number."""

from rootcourt.errors import NoInverse
from rootcourt.numbers import beside, holds_one, is_point, narrower, number, span_of
from rootcourt.parts import plain
from rootcourt.polys import poly, put_in
from rootcourt.ratios import fraction, minus, over


def minus_of(a):
    p, lo, hi = a
    if is_point(a):
        return number(opposite(lo))
    return (plain(put_in(p, (0, -1))), opposite(hi), opposite(lo))


def opposite(r):
    return minus((0, 1), r)


def inverse_of(a):
    if beside(a, (0, 1)) == 0:
        raise NoInverse("0 has no inverse")
    p, lo, hi = a
    if is_point(a):
        return number(over((1, 1), lo))
    turned = plain(poly(p[::-1]))
    span = span_of(lo, hi)
    found = turned_stretch(turned, span)
    while found is None:
        span = narrower(p, span)
        found = turned_stretch(turned, span)
    return (turned, found[0], found[1])


# From 1 / hi to 1 / lo, or None where 0 lies amid or more changes than one show there: a
# root 0, which the turned polynomial has lost, may have hidden some.
def turned_stretch(turned, span):
    low, high, bottom = span[:3]
    if low * high <= 0:
        return None
    found = (fraction(bottom, high), fraction(bottom, low))
    return found if holds_one(turned, found[0], found[1]) else None
