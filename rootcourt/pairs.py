"""What sums and products of two numbers have in common: roots in pairs, and papers of them."""

from rootcourt.errors import TooGreat
from rootcourt.forms import f_of, f_plus, f_scaled, f_times, is_form
from rootcourt.free import free_part
from rootcourt.numbers import has_turn, holds_one, is_number, is_point, narrower, span_of, stretch_of
from rootcourt.polys import degree, poly, sign_at
from rootcourt.ratios import fraction, is_fraction, less
from rootcourt.taking import f_parted
from rootcourt.whole import divisor_of, is_whole

GREATEST_DEGREE = 16


def refuse_too_great(a, b):
    if degree(a[0]) * degree(b[0]) > GREATEST_DEGREE:
        raise TooGreat("the degrees multiplied are above 16")


# The weights, from the greatest power down, of the polynomial whose first weight is 1
# and whose roots are factor times those of p; p's last weight divides the factor.
def spread_roots(p, factor):
    found = [1]
    scale = factor // p[-1]
    for weight in reversed(p[:-1]):
        found.append(weight * scale)
        scale = scale * factor
    return found


# How much the powers of all roots, the 0th to the many-th, add up to, by Newton's rule;
# all of them are whole, as the first weight is 1.
def power_sums(weights, many):
    sums = [len(weights) - 1]
    for power in range(1, many + 1):
        total = power * weights[power] if power < len(weights) else 0
        for place in range(1, min(power, len(weights))):
            total = total + weights[place] * sums[power - place]
        sums.append(-total)
    return sums


# The other way round: the weights of the polynomial whose roots have these power sums.
def weights_of_sums(sums):
    found = [1]
    for power in range(1, len(sums)):
        total = sums[power]
        for place in range(1, power):
            total = total + found[place] * sums[power - place]
        found.append(-total // power)
    return found


# The plain free polynomial whose roots, times the factor, have these power sums.
def free_of_sums(sums, factor):
    weights = []
    scale = 1
    for weight in reversed(weights_of_sums(sums)):
        weights.append(weight * scale)
        scale = scale * factor
    return free_part(poly(weights))


# (n, one, other): the number by r that lies where ends puts it, and stretches of a and
# b that are narrow enough to show it. Which of the two is narrowed next is told by
# first_goes: were both, the one that narrows sooner would get far too many figures.
def met(a, b, r, ends, first_goes):
    one = span_of(a[1], a[2])
    other = span_of(b[1], b[2])
    lo, hi = ends(one, other)
    while not holds_one(r, lo, hi):
        if first_goes(one, other):
            one = narrower(a[0], one)
        else:
            other = narrower(b[0], other)
        lo, hi = ends(one, other)
    return ((r, fraction(lo[0], lo[1]), fraction(hi[0], hi[1])), stretch_of(one), stretch_of(other))


# (scale, left, right) such that scale f is left p(x) + right q(y), for a form f in x and
# y that is 0 wherever p and q are: what is left by p and then by q has lesser powers than
# both and is 0 at all pairs of their roots, so it is nought.
def bound(f, p, q):
    scale, left, rest = f_parted(f, f_of(p, "x"), 0)
    further, right, nothing = f_parted(rest, f_of(q, "y"), 1)
    scale = f_times(scale, further)
    left = f_times(left, further)
    least = divisor_of([weight for powers, weight in scale + left + right])
    return (scale[0][1] // least, f_shrunk(left, least), f_shrunk(right, least))


def f_shrunk(f, factor):
    return tuple([(powers, weight // factor) for powers, weight in f])


# Whether a paper has the shape of a sum's or a product's, and its stretches lie well.
def is_placed(a, b, paper):
    return has_shape(paper) and lies_well(a, paper[1]) and lies_well(b, paper[2])


def has_shape(paper):
    if not isinstance(paper, tuple) or len(paper) != 6:
        return False
    n, one, other, scale, left, right = paper
    if not is_whole(scale) or scale < 1 or not is_form(left) or not is_form(right):
        return False
    return is_fraction_pair(one) and is_fraction_pair(other) and is_number(n)


def is_fraction_pair(thing):
    return isinstance(thing, tuple) and len(thing) == 2 and is_fraction(thing[0]) and is_fraction(thing[1])


def lies_well(n, pair):
    p, lo, hi = n
    first, last = pair
    if is_point(n):
        return first == lo and last == lo
    if first == last:
        return less(lo, first) and less(first, hi) and sign_at(p, first) == 0
    if less(first, lo) or less(hi, last):
        return False
    return less(first, last) and has_turn(p, first, last)


# Whether n is shown to be what lies from least to greatest.
def holds(n, least, greatest):
    p, lo, hi = n
    if least == greatest:
        return sign_at(p, least) == 0 and (lo == hi or (less(lo, least) and less(least, hi)))
    return not is_point(n) and not less(least, lo) and not less(hi, greatest)


def is_bound(f, a, b, paper):
    scale, left, right = paper[3:]
    both = f_plus(f_times(left, f_of(a[0], "x")), f_times(right, f_of(b[0], "y")))
    return f_scaled(f, scale) == both
