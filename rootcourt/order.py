"""The order of two numbers, and the sign of a polynomial at a number, with papers."""

from rootcourt.changes import between, changes
from rootcourt.numbers import beside, has_turn, is_point, middle
from rootcourt.numbers import is_wider, narrower, span_hi, span_lo, span_of, stretch_of
from rootcourt.parts import shared, whole_part
from rootcourt.polys import is_poly, p_times, sign_at
from rootcourt.ratios import is_fraction, less
from rootcourt.whole import is_whole

ORDERS = {"less": -1, "same": 0, "more": 1}


def order(a, b):
    return ORDERS[order_paper(a, b)[0]]


def order_paper(a, b):
    one = span_of(a[1], a[2])
    other = span_of(b[1], b[2])
    paper = apart_paper(one, other)
    if paper is None:
        # Once it is known that they are not the same, narrowing comes to an end.
        d = shared(a[0], b[0])
        if shows_same(a, b, d):
            return ("same", d, whole_part(a[0], d), whole_part(b[0], d))
    while paper is None:
        if is_wider(one, other):
            one = narrower(a[0], one)
        else:
            other = narrower(b[0], other)
        paper = apart_paper(one, other)
    return paper


def apart_paper(one, other):
    r = fraction_amid(one, other)
    if r is not None:
        return ("less", r)
    r = fraction_amid(other, one)
    return None if r is None else ("more", r)


# A fraction strictly between whatever lies in one span and in another further right;
# None where there is none.
def fraction_amid(left, right):
    end = span_hi(left)
    start = span_lo(right)
    if less(start, end):
        return None
    # Numbers in stretches that touch lie on both sides of where they do, points don't.
    if not less(end, start) and (left[0] == left[1] or right[0] == right[1]):
        return None
    return middle(end, start)


def order_right(a, b, paper):
    if not isinstance(paper, tuple) or len(paper) not in (2, 4) or not isinstance(paper[0], str):
        return False
    if len(paper) == 4:
        return paper[0] == "same" and parts_right(a[0], b[0], paper) and shows_same(a, b, paper[1])
    word, r = paper
    if not is_fraction(r):
        return False
    if word == "less":
        return beside(a, r) == -1 and beside(b, r) == 1
    return word == "more" and beside(a, r) == 1 and beside(b, r) == -1


# Whether a paper (word, d, u, v) says p as the product of d and u, q as that of d and v.
def parts_right(p, q, paper):
    d, u, v = paper[1:]
    if not is_poly(d) or not is_poly(u) or not is_poly(v):
        return False
    return p_times(d, u) == p and p_times(d, v) == q


# Whether d, which divides the polynomials of both numbers, shows that they are one.
def shows_same(a, b, d):
    if is_point(a) and is_point(b):
        return a[1] == b[1] and sign_at(d, a[1]) == 0
    if is_point(a):
        return less(b[1], a[1]) and less(a[1], b[2]) and sign_at(d, a[1]) == 0
    if is_point(b):
        return shows_same(b, a, d)
    lo = b[1] if less(a[1], b[1]) else a[1]
    hi = a[2] if less(a[2], b[2]) else b[2]
    return less(lo, hi) and has_turn(d, lo, hi)


def sign_of(p, n):
    found = sign_paper(p, n)[0]
    return 0 if found == "nought" else found


def sign_paper(p, n):
    d = shared(p, n[0])
    if shows_nought(d, n):
        return ("nought", d, whole_part(p, d), whole_part(n[0], d))
    span = span_of(n[1], n[2])
    while not is_even(p, span_lo(span), span_hi(span)):
        span = narrower(n[0], span)
    lo, hi = stretch_of(span)
    return (sign_at(p, middle(lo, hi)), lo, hi)


# Whether no change shows between lo and hi; at a point there is none.
def is_even(p, lo, hi):
    return not less(lo, hi) or changes(between(p, lo, hi)) == 0


# Whether d, which divides the polynomial of n, is 0 at n.
def shows_nought(d, n):
    if is_point(n):
        return sign_at(d, n[1]) == 0
    return has_turn(d, n[1], n[2])


def sign_right(p, n, paper):
    if not isinstance(paper, tuple) or len(paper) not in (3, 4):
        return False
    if len(paper) == 4:
        if not isinstance(paper[0], str) or paper[0] != "nought":
            return False
        return parts_right(p, n[0], paper) and shows_nought(paper[1], n)
    found, lo, hi = paper
    if not is_whole(found) or found not in (1, -1) or not is_fraction(lo) or not is_fraction(hi):
        return False
    return lies_amid(n, lo, hi) and is_even(p, lo, hi) and sign_at(p, middle(lo, hi)) == found


def lies_amid(n, lo, hi):
    if lo == hi:
        return beside(n, lo) == 0
    return beside(n, lo) == 1 and beside(n, hi) == -1
