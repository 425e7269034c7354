"""Cuts, which part the real roots of a polynomial, and these roots as numbers."""

from rootcourt.changes import above, below, between, changes
from rootcourt.errors import NoFree
from rootcourt.free import free_part, is_free
from rootcourt.polys import derived, sign_at, whole_value
from rootcourt.ratios import fraction, is_fraction, less, minus, plus, times
from rootcourt.whole import root_floor

LEAST_NARROWING = 4


def roots_right(p, cuts):
    if p == () or not isinstance(cuts, list) or len(cuts) == 0:
        return False
    if not all([is_fraction(cut) for cut in cuts]):
        return False
    if changes(below(p, cuts[0])) > 0 or changes(above(p, cuts[-1])) > 0:
        return False
    for lo, hi in zip(cuts, cuts[1:]):
        if not less(lo, hi) or changes(between(p, lo, hi)) > 1:
            return False
    return True


def cuts_of(p):
    if not is_free(p):
        raise NoFree("cuts are told of a free polynomial")
    return thinned(p, cuts_of_free(p))


# The search leaves many cuts with no root between them; whoever checks them is
# spared those that can be done without.
def thinned(p, cuts):
    kept = cuts[:1]
    for cut, beyond in zip(cuts[1:], cuts[2:]):
        if changes(between(p, kept[-1], beyond)) > 1:
            kept.append(cut)
    kept.append(cuts[-1])
    return kept


def roots_of(p):
    f = free_part(p)
    cuts = cuts_of_free(f)
    # No cut is a root, so each root lies between two neighbours.
    return [(f, lo, hi) for lo, hi in zip(cuts, cuts[1:]) if changes(between(f, lo, hi)) == 1]


# A stretch waits as (lo, hi, its changes, narrowing); the leftmost is taken first.
def cuts_of_free(p):
    far = farther_than_roots(p)
    cuts = [(-far, 1)]
    waiting = [measured(p, (-far, 1), (far, 1), LEAST_NARROWING)]
    while len(waiting) > 0:
        stretch = waiting.pop()
        if stretch[2] > 1:
            waiting.extend(pieces(p, stretch))
        else:
            cuts.append(stretch[1])
    return cuts


def farther_than_roots(p):
    # By Cauchy's bound, which holds for the roots that aren't real too: so
    # nothing changes its sign beyond it.
    return max([abs(weight) for weight in p]) // abs(p[-1]) + 2


def measured(p, lo, hi, narrowing):
    return (lo, hi, changes(between(p, lo, hi)), narrowing)


# The pieces of a stretch, the rightmost first. Halving always comes to an end, as
# a free polynomial has at most one change within a stretch that is small enough;
# roots that lie together are come by much sooner with Newton's steps, each of which
# may narrow the stretch by the square of what the one ahead narrowed it by.
def pieces(p, stretch):
    lo, hi, many, narrowing = stretch
    near = nearer(p, stretch)
    if near is None:
        slower = max(root_floor(narrowing), LEAST_NARROWING)
        middle = clear_middle(p, lo, hi)
        return [measured(p, middle, hi, slower), measured(p, lo, middle, slower)]
    found = [measured(p, near[1], hi, LEAST_NARROWING)] if less(near[1], hi) else []
    found.append((near[0], near[1], many, narrowing * narrowing))
    if less(lo, near[0]):
        found.append(measured(p, lo, near[0], LEAST_NARROWING))
    return found


# A fraction in the middle half of a stretch at which p isn't 0.
def clear_middle(p, lo, hi):
    point = times(plus(lo, hi), (1, 2))
    step = times(minus(hi, lo), (1, 4 * len(p)))
    while sign_at(p, point) == 0:
        point = plus(point, step)
    return point


# A narrow stretch within another one that has all of its changes, or None where
# the one that Newton's step leads to isn't such.
def nearer(p, stretch):
    lo, hi, many, narrowing = stretch
    cells = 4 * narrowing
    cell = newton_cell(p, lo, hi, cells)
    if cell is None:
        return None
    # The neighbours are taken along, as the roots may lie on both sides.
    first = max(cell - 1, 0)
    last = min(cell + 2, cells)
    if first >= last:
        return None
    width = minus(hi, lo)
    near = (plus(lo, times(width, fraction(first, cells))), plus(lo, times(width, fraction(last, cells))))
    # A root at one of its ends would be lacking among the changes: so there is none.
    return near if changes(between(p, near[0], near[1])) == many else None


# The number of the cell, of so many in a stretch, to which Newton's step leads from
# the middle: that for p over its derivative, as it is right for roots that lie
# together, however many they are. A cell is told so that the cuts don't have all the
# figures of p's value.
def newton_cell(p, lo, hi, cells):
    middle = times(plus(lo, hi), (1, 2))
    width = minus(hi, lo)
    height = whole_value(p, middle)
    slope = whole_value(derived(p), middle)
    bend = slope * slope - height * whole_value(derived(derived(p)), middle)
    if bend == 0:
        return None
    return cells // 2 - cells * height * slope * width[1] // (bend * middle[1] * width[0])
