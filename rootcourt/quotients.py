"""Quotients of polynomials in plain form, and papers for them."""

from rootcourt.errors import NoPart
from rootcourt.parts import shared, shared_paper, shrunk, whole_part
from rootcourt.polys import degree, derived, is_poly, p_minus, p_plus, p_times, value
from rootcourt.ratios import over
from rootcourt.whole import divisor_of, is_whole


def is_quotient(thing):
    if not isinstance(thing, tuple) or len(thing) != 2:
        return False
    top, bottom = thing
    if not is_poly(top) or not is_poly(bottom) or not has_plain_weights(top, bottom):
        return False
    return degree(shared(top, bottom)) == 0


# Whether the weights of both are as they are in plain form.
def has_plain_weights(top, bottom):
    return bottom != () and bottom[-1] > 0 and divisor_of(top + bottom) == 1


def q_of(p, q):
    if q == ():
        raise NoPart("nothing is parted by nought")
    part = shared(p, q)
    top = whole_part(p, part)
    bottom = whole_part(q, part)
    number = divisor_of(top + bottom)
    if bottom[-1] < 0:
        number = -number
    return (shrunk(top, number), shrunk(bottom, number))


def q_paper(p, q):
    top, bottom = q_of(p, q)
    a, b, c = shared_paper(top, bottom)[3:]
    return (top, bottom, a, b, c)


def q_right(p, q, paper):
    if q == () or not isinstance(paper, tuple) or len(paper) != 5:
        return False
    top, bottom, a, b, c = paper
    if not all([is_poly(thing) for thing in (top, bottom, a, b)]) or not is_whole(c) or c == 0:
        return False
    if not has_plain_weights(top, bottom) or p_times(top, q) != p_times(bottom, p):
        return False
    return p_plus(p_times(a, top), p_times(b, bottom)) == (c,)


def q_plus(f, g):
    return q_of(p_plus(p_times(f[0], g[1]), p_times(g[0], f[1])), p_times(f[1], g[1]))


def q_minus(f, g):
    return q_of(p_minus(p_times(f[0], g[1]), p_times(g[0], f[1])), p_times(f[1], g[1]))


def q_times(f, g):
    return q_of(p_times(f[0], g[0]), p_times(f[1], g[1]))


def q_over(f, g):
    return q_of(p_times(f[0], g[1]), p_times(f[1], g[0]))


def q_derived(f):
    top, bottom = f
    return q_of(p_minus(p_times(derived(top), bottom), p_times(top, derived(bottom))), p_times(bottom, bottom))


def q_value(f, r):
    return over(value(f[0], r), value(f[1], r))
