"""Forms: polynomials in the names x, y, z, told as tuples of terms ((i, j, k), weight)."""

from rootcourt.errors import NoName
from rootcourt.polys import whole_power
from rootcourt.ratios import fraction
from rootcourt.whole import is_whole

NAMES = ("x", "y", "z")
ONE = (((0, 0, 0), 1),)


def is_form(thing):
    if not isinstance(thing, tuple) or not all([is_term(term) for term in thing]):
        return False
    return all([one[0] < other[0] for one, other in zip(thing, thing[1:])])


def is_term(thing):
    if not isinstance(thing, tuple) or len(thing) != 2:
        return False
    powers, weight = thing
    if not isinstance(powers, tuple) or len(powers) != 3 or not is_whole(weight) or weight == 0:
        return False
    return all([is_whole(power) and power >= 0 for power in powers])


def form(terms):
    sums = {}
    for powers, weight in terms:
        sums[powers] = sums.get(powers, 0) + weight
    return tuple([(powers, sums[powers]) for powers in sorted(sums) if sums[powers] != 0])


def f_plus(f, g):
    return form(f + g)


def f_minus(f, g):
    return f_plus(f, f_scaled(g, -1))


def f_scaled(f, number):
    if number == 0:
        return ()
    return tuple([(powers, weight * number) for powers, weight in f])


def f_times(f, g):
    base = greatest_power(f) + greatest_power(g) + 1
    others = packed(g, base)
    sums = {}
    for one, weight in packed(f, base):
        for other, factor in others:
            sums[one + other] = sums.get(one + other, 0) + weight * factor
    return unpacked(sums, base)


def greatest_power(f):
    return max([max(powers) for powers, weight in f], default=0)


# Each term's powers as one whole number, by its figures to the base: these add up like
# the powers and have the same order, and they are reckoned with much sooner.
def packed(f, base):
    return [((powers[0] * base + powers[1]) * base + powers[2], weight) for powers, weight in f]


def unpacked(sums, base):
    found = []
    for key in sorted(sums):
        if sums[key] != 0:
            upper, k = divmod(key, base)
            found.append(((upper // base, upper % base, k), sums[key]))
    return tuple(found)


def f_value(f, at):
    tables = [scaled_powers(f, place, at[place]) for place in range(3)]
    total = 0
    for powers, weight in f:
        total = total + weight * tables[0][powers[0]] * tables[1][powers[1]] * tables[2][powers[2]]
    bottom = 1
    for place in range(3):
        bottom = bottom * whole_power(at[place][1], most(f, place))
    return fraction(total, bottom)


# The powers of a fraction that a form has at a place, times the bottom to the greatest
# of them: whole, so that all terms are added over one bottom.
def scaled_powers(f, place, point):
    top, bottom = point
    greatest = most(f, place)
    found = {}
    for powers, weight in f:
        many = powers[place]
        if many not in found:
            found[many] = whole_power(top, many) * whole_power(bottom, greatest - many)
    return found


# The greatest power of the name at a place, 0 of the form nought.
def most(f, place):
    return max([powers[place] for powers, weight in f], default=0)


def place_of(name):
    # What is no text may not even bear being compared.
    if not isinstance(name, str) or name not in NAMES:
        raise NoName(name)
    return NAMES.index(name)


def name_power(place, many):
    return tuple([many if place == other else 0 for other in range(3)])


def f_of(p, name):
    place = place_of(name)
    return form([(name_power(place, many), weight) for many, weight in enumerate(p)])


def f_put(f, name, g):
    found = ()
    for weight in reversed(f_weights(f, name)):
        found = f_plus(f_times(found, g), weight)
    return found


def f_weights(f, name):
    place = place_of(name)
    if f == ():
        return []
    found = [[] for many in range(most(f, place) + 1)]
    for powers, weight in f:
        found[powers[place]].append((without(powers, place), weight))
    # Terms of the same power keep their order without it.
    return [tuple(terms) for terms in found]


def without(powers, place):
    return powers[:place] + (0,) + powers[place + 1:]
