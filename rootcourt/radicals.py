"""Root sums: fractions times square roots, added up."""

from rootcourt.errors import TooGreat
from rootcourt.numbers import number
from rootcourt.parts import plain
from rootcourt.ratios import is_fraction, less, minus, over, plus, sign, times
from rootcourt.sums import sum_of
from rootcourt.whole import divisor, is_whole, root_floor

GREATEST = 1000000000000
MOST_ROOTS = 3


def is_root_sum(thing):
    if not isinstance(thing, tuple) or len(thing) > MOST_ROOTS + 1 or not all([is_root_term(term) for term in thing]):
        return False
    if not all([one[0] < other[0] for one, other in zip(thing, thing[1:])]):
        return False
    return len(roots_in(thing)) <= MOST_ROOTS and all([square_in(d) == 1 for d, c in thing])


def is_root_term(thing):
    if not isinstance(thing, tuple) or len(thing) != 2:
        return False
    d, c = thing
    return is_whole(d) and d >= 1 and d <= GREATEST and is_fraction(c) and c[0] != 0


# The terms with a d above 1.
def roots_in(one):
    return [term for term in one if term[0] > 1]


# The greatest s whose square divides d. What is left where no lesser number up to its
# cube root divides it has two primes at most: so it is a square or has none in it.
def square_in(d):
    found = 1
    left = d
    trial = 2
    while trial * trial * trial <= left:
        while left % (trial * trial) == 0:
            left = left // (trial * trial)
            found = found * trial
        if left % trial == 0:
            left = left // trial
        trial = trial + 1
    root = root_floor(left)
    return found * root if root * root == left else found


def root_sum(terms):
    told = []
    for d, c in terms:
        s = square_in(d)
        told.append((d // (s * s), times(c, (s, 1))))
    return added_up(told)


# The root sum of terms whose d no square above 1 divides.
def added_up(terms):
    sums = {}
    for d, c in terms:
        sums[d] = plus(sums.get(d, (0, 1)), c)
    found = tuple([(d, sums[d]) for d in sorted(sums) if sums[d] != (0, 1)])
    if len(roots_in(found)) > MOST_ROOTS:
        raise TooGreat("a root sum has at most three roots")
    if found != () and found[-1][0] > GREATEST:
        raise TooGreat("a root sum has roots of numbers up to 10 ** 12")
    return found


def s_plus(one, other):
    return added_up(one + other)


def s_minus(one, other):
    return added_up(one + tuple([(d, minus((0, 1), c)) for d, c in other]))


def s_times(one, other):
    found = []
    for d, c in one:
        found.extend([term_product(d, c, term) for term in other])
    return added_up(found)


# With s the divisor of both d, the product of their roots is s times the root of what
# both leave.
def term_product(d, c, term):
    s = divisor(d, term[0])
    return (d // s * (term[0] // s), times(times(c, term[1]), (s, 1)))


def s_sign(one):
    return s_paper(one)[0]


# The bounds are drawn nearer until they show the sign, which they do in the end, as
# only () is 0.
def s_paper(one):
    if one == ():
        return (0, ())
    scale = 1
    pairs = pairs_at(one, scale)
    found = sign_shown(one, pairs)
    while found == 0:
        scale = 2 * scale * scale
        pairs = pairs_at(one, scale)
        found = sign_shown(one, pairs)
    return (found, pairs)


# The roots of all d above 1 between neighbours in steps of 1 / scale.
def pairs_at(one, scale):
    found = []
    for d, c in roots_in(one):
        root = root_floor(d * scale * scale)
        found.append((over((root, 1), (scale, 1)), over((root + 1, 1), (scale, 1))))
    return tuple(found)


# 1 or -1 where the pairs show this sign, else 0.
def sign_shown(one, pairs):
    least, greatest = ends(one, pairs)
    if sign(least) == 1:
        return 1
    return -1 if sign(greatest) == -1 else 0


# The least and the greatest that a root sum can be by pairs of its roots.
def ends(one, pairs):
    least = (0, 1)
    greatest = (0, 1)
    for term, pair in zip(one, [((1, 1), (1, 1))] * (len(one) - len(pairs)) + list(pairs)):
        c = term[1]
        lo, hi = pair if sign(c) == 1 else pair[::-1]
        least = plus(least, times(c, lo))
        greatest = plus(greatest, times(c, hi))
    return (least, greatest)


def s_right(one, paper):
    if not isinstance(paper, tuple) or len(paper) != 2:
        return False
    found, pairs = paper
    if not is_whole(found) or not isinstance(pairs, tuple) or len(pairs) != len(roots_in(one)):
        return False
    if not all([is_bound(term[0], pair) for term, pair in zip(roots_in(one), pairs)]):
        return False
    if found == 0:
        return one == ()
    return sign_shown(one, pairs) == found


# Whether a pair is of two fractions, from 0 on, between which the root of d lies.
def is_bound(d, pair):
    if not isinstance(pair, tuple) or len(pair) != 2 or not is_fraction(pair[0]) or not is_fraction(pair[1]):
        return False
    lo, hi = pair
    if sign(lo) == -1 or sign(hi) == -1:
        return False
    return not less((d, 1), times(lo, lo)) and not less(times(hi, hi), (d, 1))


def s_number(one):
    if one == ():
        return number((0, 1))
    found = term_number(one[0])
    for term in one[1:]:
        found = sum_of(found, term_number(term))
    return found


def term_number(term):
    d, c = term
    if d == 1:
        return number(c)
    top, bottom = c
    p = plain((-top * top * d, 0, bottom * bottom))
    root = root_floor(d)
    lo = times(c, (root, 1))
    hi = times(c, (root + 1, 1))
    return (p, lo, hi) if less(lo, hi) else (p, hi, lo)
