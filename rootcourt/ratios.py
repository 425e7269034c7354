"""Fractions: tuples (top, bottom) in lowest terms, the bottom from 1 on."""

from rootcourt.errors import NoPart
from rootcourt.whole import divisor, is_whole, sign_of_whole


def is_fraction(thing):
    if not isinstance(thing, tuple) or len(thing) != 2:
        return False
    top, bottom = thing
    if not is_whole(top) or not is_whole(bottom):
        return False
    return bottom >= 1 and divisor(top, bottom) == 1


def fraction(top, bottom):
    if bottom == 0:
        raise NoPart("nothing is parted by 0")
    shared = divisor(top, bottom)
    if bottom < 0:
        shared = -shared
    return (top // shared, bottom // shared)


def plus(one, other):
    return fraction(one[0] * other[1] + other[0] * one[1], one[1] * other[1])


def minus(one, other):
    return fraction(one[0] * other[1] - other[0] * one[1], one[1] * other[1])


def times(one, other):
    return fraction(one[0] * other[0], one[1] * other[1])


def over(one, other):
    return fraction(one[0] * other[1], one[1] * other[0])


def less(one, other):
    return one[0] * other[1] < other[0] * one[1]


def sign(one):
    return sign_of_whole(one[0])
