"""Free polynomials, which have each root once, and the layers of the others."""

from rootcourt.errors import NoFree
from rootcourt.parts import plain, shared, shared_paper, unit, whole_part
from rootcourt.polys import degree, derived, is_poly, p_minus, p_plus, p_times, power, scaled
from rootcourt.whole import is_whole


def is_free(one):
    # A root that comes more than once is a root of the derivative too.
    return one != () and degree(shared(one, derived(one))) == 0


def free_part(one):
    refuse_nought(one)
    full = plain(one)
    return whole_part(full, shared(full, derived(full)))


def refuse_nought(one):
    if one == ():
        raise NoFree("nought has every number as a root")


def free_paper(one):
    f = free_part(one)
    # No root comes more often than the degree says, so this divides whole.
    w = whole_part(power(f, degree(one)), plain(one))
    a, b, e = shared_paper(f, derived(f))[3:]
    return (f, whole_part(one, f), unit(one), w, a, b, e)


def free_right(one, paper):
    if one == () or not isinstance(paper, tuple) or len(paper) != 7:
        return False
    f, u, c, w, a, b, e = paper
    if not all([is_poly(thing) for thing in (f, u, w, a, b)]):
        return False
    if not is_whole(c) or c == 0 or not is_whole(e) or e == 0:
        return False
    if plain(f) != f or p_times(u, f) != one or not same_roots(one, f, c, w):
        return False
    return p_plus(p_times(a, f), p_times(b, derived(f))) == (e,)


def same_roots(one, f, c, w):
    # The degrees are cheap to compare, the power is not cheap to reckon.
    if degree(f) * degree(one) != degree(w) + degree(one):
        return False
    return scaled(power(f, degree(one)), c) == p_times(w, one)


# By Yun's way: left has each root that comes times or more often, once; of these,
# turn is 0 at those that come just times.
def layers(one):
    refuse_nought(one)
    full = plain(one)
    repeated = shared(full, derived(full))
    left = whole_part(full, repeated)
    turn = p_minus(whole_part(derived(full), repeated), derived(left))
    times = 1
    found = []
    while degree(left) > 0:
        layer = shared(left, turn)
        if degree(layer) > 0:
            found.append((layer, times))
        left = whole_part(left, layer)
        turn = p_minus(whole_part(turn, layer), derived(left))
        times = times + 1
    return found
