"""Polynomials by a number m: told by their weights' remainders, from 0 on and below m."""

from rootcourt.errors import NoPart
from rootcourt.polys import degree, p_minus, p_plus, p_times, poly, repeated, scaled


def by_number(one, m):
    return poly([weight % m for weight in one])


def m_plus(one, other, m):
    return by_number(p_plus(one, other), m)


def m_minus(one, other, m):
    return by_number(p_minus(one, other), m)


def m_times(one, other, m):
    return by_number(p_times(one, other), m)


def inverse_by(number, m):
    # Euclid's way: at each step here times the number leaves lesser by m.
    greater = m
    lesser = number % m
    ahead = 0
    here = 1
    while lesser != 0:
        many = greater // lesser
        greater, lesser = lesser, greater - many * lesser
        ahead, here = here, ahead - many * here
    if greater != 1:
        raise NoPart("it has a common divisor with the number reckoned by")
    return ahead % m


def m_parted(one, other, m):
    if other == ():
        raise NoPart("nothing is parted by nought")
    inverse = inverse_by(other[-1], m)
    rest = list(by_number(one, m))
    quotient = [0] * max(len(rest) - len(other) + 1, 0)
    for place in range(len(quotient) - 1, -1, -1):
        factor = rest[place + degree(other)] * inverse % m
        quotient[place] = factor
        if factor != 0:
            for further, weight in enumerate(other):
                rest[place + further] = (rest[place + further] - factor * weight) % m
    return (poly(quotient), poly(rest))


def m_rest(one, other, m):
    return m_parted(one, other, m)[1]


def single(one, t):
    told = by_number(one, t)
    if told == ():
        return ()
    return by_number(scaled(told, inverse_by(told[-1], t)), t)


def m_shared(one, other, t):
    first = by_number(one, t)
    second = by_number(other, t)
    while second != ():
        first, second = second, m_rest(first, second, t)
    return single(first, t)


def m_power(one, many, by, m):
    return repeated(m_rest((1,), by, m), m_rest(one, by, m), many,
                    lambda left, right: m_rest(p_times(left, right), by, m))


# The polynomial whose product with one leaves 1 by the other one, which has no common
# part by t with it: at each step here times one leaves lesser.
def m_inverse(one, other, t):
    greater = by_number(other, t)
    lesser = m_rest(one, other, t)
    ahead = ()
    here = (1,)
    while lesser != ():
        quotient, rest = m_parted(greater, lesser, t)
        greater, lesser = lesser, rest
        ahead, here = here, m_minus(ahead, p_times(quotient, here), t)
    return m_rest(scaled(ahead, inverse_by(greater[-1], t)), other, t)
