"""Polynomials parted by one another, and the greatest common part of two."""

from rootcourt.errors import NoPart
from rootcourt.modular import m_shared
from rootcourt.polys import degree, is_poly, p_minus, p_plus, p_times, poly, raised, scaled, whole_power
from rootcourt.whole import divisor, divisor_of, is_whole

# 2 ** 61 - 1: any prime would do, a great one seldom hides that two have no common part.
PRIME = 2305843009213693951


def content(one):
    return divisor_of(one)


def plain(one):
    return shrunk(one, unit(one))


# The whole number of times that a polynomial is its plain one.
def unit(one):
    if one != () and one[-1] < 0:
        return -content(one)
    return content(one)


def shrunk(one, number):
    return tuple([weight // number for weight in one])


def parted(one, other):
    return long_division(one, other, True)


def whole_part(one, other):
    division = long_division(one, other, False)
    if division is None or division[2] != ():
        return None
    return division[1]


# Where no scaling is asked for, None is told as soon as a weight isn't whole.
def long_division(one, other, scaling):
    if other == ():
        raise NoPart("nothing is parted by nought")
    scale = 1
    quotient = [0] * max(len(one) - len(other) + 1, 0)
    rest = list(one)
    for place in range(len(quotient) - 1, -1, -1):
        # The scale grows by no more than this weight of the quotient needs to
        # be whole: so it is the least for all of them, and then for the rest.
        missing = abs(other[-1]) // divisor(rest[place + degree(other)], other[-1])
        if missing != 1:
            if not scaling:
                return None
            scale = scale * missing
            quotient = [weight * missing for weight in quotient]
            rest = [weight * missing for weight in rest]
        factor = rest[place + degree(other)] // other[-1]
        quotient[place] = factor
        if factor != 0:
            for further, weight in enumerate(other):
                rest[place + further] = rest[place + further] - factor * weight
    return (scale, poly(quotient), poly(rest))


def shared(one, other):
    if surely_apart(one, other):
        return (1,)
    return plain(last_row((one,), (other,))[0])


# True only where no polynomial of degree 1 or more divides both. A common part keeps
# its degree in the remainders by a prime that doesn't divide a last weight: so where
# the remainders have none, which is soon seen, there is none.
def surely_apart(one, other):
    if one == () or other == () or one[-1] % PRIME == 0:
        return False
    return degree(m_shared(one, other, PRIME)) == 0


def shared_paper(one, other):
    part, a, b = last_row((one, (1,), ()), (other, (), (1,)))
    if part == ():
        return ((), (), (), a, b, 1)
    g = plain(part)
    return (g, whole_part(one, g), whole_part(other, g), a, b, unit(part))


def shared_right(one, other, paper):
    if not isinstance(paper, tuple) or len(paper) != 6:
        return False
    g, u, v, a, b, c = paper
    if not all([is_poly(thing) for thing in (g, u, v, a, b)]) or not is_whole(c) or c == 0:
        return False
    if plain(g) != g or p_times(u, g) != one or p_times(v, g) != other:
        return False
    return p_plus(p_times(a, one), p_times(b, other)) == scaled(g, c)


# Euclid's way, by rows of polynomials: each new row is a sum of multiples of the two
# ahead of it, so made that its first polynomial is of lesser degree than theirs. Told
# is the last row whose first one isn't nought. Where the rows begin with (one, 1, 0)
# and (other, 0, 1), each row says how its first one is made of one and other.
# By the rule of the subresultants each row is divided by a number that is known to
# divide it: so the weights grow evenly, and no divisors of great numbers are sought.
def last_row(first, second):
    if degree(first[0]) < degree(second[0]):
        return last_row(second, first)
    lead = 1
    height = 1
    while degree(second[0]) > 0:
        steps = degree(first[0]) - degree(second[0])
        known = lead * whole_power(height, steps)
        third = next_row(first, second, known)
        lead = second[0][-1]
        if steps > 0:
            height = whole_power(lead, steps) // whole_power(height, steps - 1)
        first, second = second, third
    # A constant divides everything, so nothing is to be done behind it.
    return first if second[0] == () else second


def next_row(first, second, known):
    scale = whole_power(second[0][-1], degree(first[0]) - degree(second[0]) + 1)
    quotient, rest = scaled_division(first[0], second[0])
    third = [shrunk(rest, known)]
    for upper, lower in zip(first[1:], second[1:]):
        third.append(shrunk(p_minus(scaled(upper, scale), p_times(quotient, lower)), known))
    return tuple(third)


# Quotient and rest with the scale that is always enough: the other one's last
# weight, once for each weight of the quotient.
def scaled_division(one, other):
    quotient = ()
    rest = one
    for place in range(degree(one) - degree(other), -1, -1):
        top = rest[place + degree(other)] if place + degree(other) < len(rest) else 0
        term = raised(poly((top,)), place)
        quotient = p_plus(scaled(quotient, other[-1]), term)
        rest = p_minus(scaled(rest, other[-1]), p_times(term, other))
    return (quotient, rest)
