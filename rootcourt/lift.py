"""Parts by a prime lifted to parts by a power of it."""

from rootcourt.modular import by_number, inverse_by, m_inverse, m_minus, m_plus, m_rest, m_times
from rootcourt.polys import p_times, scaled, whole_power


def lifted(f, t, parts, e):
    found = list(parts)
    inverses = [m_inverse(without, part, t) for part, without in zip(found, products_without(found, t))]
    m = t
    for exponent in exponents_to(e)[1:]:
        inverses = lifted_inverses(found, inverses, m)
        m = whole_power(t, exponent)
        found = lifted_parts(single_of(f, m), found, inverses, m)
    return found


# Rising from 1, the last one e, each at most twice the one ahead: a step of the lifting
# doubles the exponent at most.
def exponents_to(e):
    found = [e]
    while found[-1] > 1:
        found.append((found[-1] + 1) // 2)
    return found[::-1]


def single_of(f, m):
    return by_number(scaled(f, inverse_by(f[-1], m)), m)


# For each part the product of all the others.
def products_without(parts, m):
    found = []
    for place in range(len(parts)):
        found.append(product_by(parts[:place] + parts[place + 1:], m))
    return found


def product_by(parts, m):
    product = (1,)
    for part in parts:
        product = m_times(product, part, m)
    return product


# What lacks in the product is shared out: an inverse is one of the product of the other
# parts, by its part, so that each part's share lacks by no other one.
def lifted_parts(f, parts, inverses, m):
    lacking = m_minus(f, product_by(parts, m), m)
    found = []
    for part, inverse in zip(parts, inverses):
        found.append(m_plus(part, m_rest(p_times(lacking, inverse), part, m), m))
    return found


# By Newton's step: where i times c leaves 1 + d, i (2 - i c) times c leaves 1 - d d.
def lifted_inverses(parts, inverses, m):
    found = []
    for part, without, inverse in zip(parts, products_without(parts, m), inverses):
        left = m_minus((2,), p_times(inverse, without), m)
        found.append(m_rest(p_times(inverse, left), part, m))
    return found
