"""Polynomials: tuples of whole weights from the 0th power on, the last one not 0."""

from rootcourt.ratios import fraction
from rootcourt.whole import is_whole, sign_of_whole


def is_poly(thing):
    if not isinstance(thing, tuple) or not all([is_whole(weight) for weight in thing]):
        return False
    return len(thing) == 0 or thing[-1] != 0


def poly(weights):
    length = len(weights)
    while length > 0 and weights[length - 1] == 0:
        length = length - 1
    return tuple(weights[:length])


def degree(one):
    return len(one) - 1


def p_plus(one, other):
    if len(one) < len(other):
        return p_plus(other, one)
    weights = list(one)
    for place, weight in enumerate(other):
        weights[place] = weights[place] + weight
    return poly(weights)


def p_minus(one, other):
    return p_plus(one, scaled(other, -1))


def p_times(one, other):
    if one == () or other == ():
        return ()
    weights = [0] * (len(one) + len(other) - 1)
    for place, weight in enumerate(one):
        if weight != 0:
            for further, factor in enumerate(other):
                weights[place + further] = weights[place + further] + weight * factor
    return tuple(weights)


def scaled(one, factor):
    if factor == 0:
        return ()
    return tuple([weight * factor for weight in one])


def power(one, many):
    return repeated((1,), one, many, p_times)


# What comes of start and so many times one by a product of any kind.
def repeated(start, one, many, product):
    found = start
    square = one
    left = many
    while left > 0:
        if left % 2 == 1:
            found = product(found, square)
        left = left // 2
        # The square behind the last one needed would be by far the costliest.
        if left > 0:
            square = product(square, square)
    return found


def whole_power(number, many):
    return power((number,), many)[0]


def raised(one, many):
    # Nought stays nought, however many noughts could not be held ahead of it.
    if one == ():
        return ()
    return (0,) * many + one


def derived(one):
    return tuple([place * weight for place, weight in enumerate(one)][1:])


def put_in(one, other):
    found = ()
    for weight in reversed(one):
        found = p_plus(p_times(found, other), poly((weight,)))
    return found


def value(one, point):
    return fraction(whole_value(one, point), whole_power(point[1], degree(one)))


def sign_at(one, point):
    return sign_of_whole(whole_value(one, point))


def whole_value(one, point):
    # The value times the bottom to the degree: whole, of the same sign, and
    # reckoned without bringing anything to lowest terms.
    top, bottom = point
    total = 0
    scale = 1
    for weight in reversed(one):
        total = total * top + weight * scale
        scale = scale * bottom
    return total
