"""A name taken out of two forms: a sum of multiples of both that is without it."""

from rootcourt.forms import ONE, f_minus, f_plus, f_times, greatest_power, is_form
from rootcourt.forms import most, name_power, packed, place_of, unpacked, without


def taken_out(f, g, name):
    place = place_of(name)
    if f != () and most(f, place) == 0:
        return (f, ONE, ())
    if g != () and most(g, place) == 0:
        return (g, (), ONE)
    if f == () or g == ():
        return ((), (), ())
    if most(f, place) < most(g, place):
        found, b, a = taken_from_greater(g, f, place)
        return (found, a, b)
    return taken_from_greater(f, g, place)


def taken_right(f, g, name, paper):
    place = place_of(name)
    if not isinstance(paper, tuple) or len(paper) != 3 or not all([is_form(thing) for thing in paper]):
        return False
    found, a, b = paper
    return most(found, place) == 0 and f_plus(f_times(a, f), f_times(b, g)) == found


# Euclid's way by rows (h, a), h being a times f and some multiple of g. By the rule of
# the subresultants each row is divided by a form that is known to divide it.
def taken_from_greater(f, g, place):
    first = (f, ONE)
    second = (g, ())
    lead = ONE
    height = ONE
    while most(second[0], place) > 0:
        steps = most(first[0], place) - most(second[0], place)
        known = f_times(lead, f_power(height, steps))
        third = next_row(first, second, known, place)
        lead = lead_of(second[0], place)
        if steps > 0:
            height = f_part(f_power(lead, steps), f_power(height, steps - 1))
        first, second = second, third
    found, a = second
    if found == ():
        return ((), (), ())
    return (found, a, f_part(f_minus(found, f_times(a, f)), g))


def next_row(first, second, known, place):
    scale, quotient, rest = f_parted(first[0], second[0], place)
    a = f_minus(f_times(scale, first[1]), f_times(quotient, second[1]))
    return (f_part(rest, known), f_part(a, known))


# (scale, quotient, rest) by the name at a place, scale being the last weight of g, once
# for each power that the quotient may have: scale f is quotient g and the rest, which
# has the name to a lesser power than g.
def f_parted(f, g, place):
    lead = lead_of(g, place)
    scale = ONE
    quotient = ()
    rest = f
    for many in range(most(f, place) - most(g, place), -1, -1):
        top = weight_of(rest, place, many + most(g, place))
        term = f_times(top, ((name_power(place, many), 1),))
        scale = f_times(scale, lead)
        quotient = f_plus(f_times(quotient, lead), term)
        rest = f_minus(f_times(rest, lead), f_times(term, g))
    return (scale, quotient, rest)


def lead_of(f, place):
    return weight_of(f, place, most(f, place))


# What stands with a power of the name at a place.
def weight_of(f, place, many):
    return tuple([(without(powers, place), weight) for powers, weight in f if powers[place] == many])


def f_power(f, many):
    found = ONE
    for time in range(many):
        found = f_times(found, f)
    return found


# The form whose product with g is f, where it is known that there is one: its greatest
# terms are found first.
def f_part(f, g):
    if g == ONE:
        return f
    base = greatest_power(f + g) + 1
    terms = packed(g, base)
    last, lead = terms[-1]
    rest = dict(packed(f, base))
    found = {}
    while len(rest) > 0:
        top = max(rest)
        found[top - last] = rest[top] // lead
        for key, weight in terms:
            here = key + top - last
            left = rest.get(here, 0) - found[top - last] * weight
            if left == 0:
                rest.pop(here)
            else:
                rest[here] = left
    return unpacked(found, base)
