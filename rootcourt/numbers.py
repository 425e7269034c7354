"""Numbers told as roots: a polynomial and a stretch in which it has just one root."""

from rootcourt.changes import between, changes
from rootcourt.free import is_free
from rootcourt.parts import plain
from rootcourt.polys import is_poly, sign_at, whole_value
from rootcourt.ratios import fraction, is_fraction, less, minus, plus, sign, times
from rootcourt.whole import common, root_floor

FEWEST_CELLS = 8


def is_number(n):
    if not isinstance(n, tuple) or len(n) != 3:
        return False
    p, lo, hi = n
    if not is_poly(p) or not is_fraction(lo) or not is_fraction(hi):
        return False
    if lo == hi:
        return p == (-lo[0], lo[1])
    return holds_one(p, lo, hi) and plain(p) == p and is_free(p)


# Whether the changes show just one root between lo and hi, neither of which is one.
def holds_one(p, lo, hi):
    if not less(lo, hi) or sign_at(p, lo) == 0 or sign_at(p, hi) == 0:
        return False
    return changes(between(p, lo, hi)) == 1


def number(r):
    return ((-r[0], r[1]), r, r)


def is_point(n):
    return n[1] == n[2]


def halved(n):
    if is_point(n):
        return n
    p, lo, hi = n
    amid = middle(lo, hi)
    if sign_at(p, amid) == 0:
        return number(amid)
    # One change between lo and hi leaves one on the root's side, none on the other.
    return (p, lo, amid) if has_turn(p, lo, amid) else (p, amid, hi)


def middle(one, other):
    return times(plus(one, other), (1, 2))


# Whether p has unlike signs at lo and hi, neither of them 0.
def has_turn(p, lo, hi):
    return sign_at(p, lo) * sign_at(p, hi) == -1


def beside(n, r):
    p, lo, hi = n
    if is_point(n):
        return sign(minus(lo, r))
    if not less(lo, r):
        return 1
    if not less(r, hi):
        return -1
    here = sign_at(p, r)
    if here == 0:
        return 0
    return 1 if here == sign_at(p, lo) else -1


# A span is (low, high, bottom, cells): a stretch, or a point, as whole numbers over
# one bottom, which needn't be in lowest terms, as seeking these at each step is dear;
# and how many cells the next step is to part it into.
def span_of(lo, hi):
    bottom = common(lo[1], hi[1])
    return (lo[0] * (bottom // lo[1]), hi[0] * (bottom // hi[1]), bottom, FEWEST_CELLS)


def span_lo(span):
    return (span[0], span[2])


def span_hi(span):
    return (span[1], span[2])


def stretch_of(span):
    return (fraction(span[0], span[2]), fraction(span[1], span[2]))


def is_wider(one, other):
    return (one[1] - one[0]) * other[2] >= (other[1] - other[0]) * one[2]


# A lesser span about the same root of p; a point stays. The straight line between the
# values at both ends tells a cell near the root: where it is hit, the next step may
# part the span into as many cells squared, else it is only halved. So the figures that
# are known of the root come to double at each step.
def narrower(p, span):
    low, high, bottom, cells = span
    if low == high:
        return span
    first = whole_value(p, (low, bottom))
    last = whole_value(p, (high, bottom))
    cell = (2 * cells * first + first - last) // (2 * (first - last))
    near = piece(span, max(cell - 1, 0), min(cell + 1, cells), cells, cells * cells)
    if has_turn(p, span_lo(near), span_hi(near)):
        return near
    return half_span(p, span)


def half_span(p, span):
    cells = max(root_floor(span[3]), FEWEST_CELLS)
    for start in (0, 1):
        half = piece(span, start, start + 1, 2, cells)
        if has_turn(p, span_lo(half), span_hi(half)):
            return half
    # The middle is the root: a stretch about it stays one, so its ends aren't roots.
    return piece(span, 1, 3, 4, cells)


# What lies from the first to the last of the marks that part a span into so many.
def piece(span, first, last, many, cells):
    low, high, bottom = span[:3]
    start = low * many
    width = high - low
    return (start + width * first, start + width * last, bottom * many, cells)
