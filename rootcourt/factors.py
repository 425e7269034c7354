"""The factors of a polynomial with whole weights, and papers that show them."""

from rootcourt.errors import TooGreat
from rootcourt.free import layers
from rootcourt.lift import lifted, product_by
from rootcourt.modular import by_number
from rootcourt.parts import plain, unit, whole_part
from rootcourt.polys import degree, is_poly, p_times, power, scaled, whole_power
from rootcourt.split import free_by, is_prime, parts_by, splits_by
from rootcourt.whole import is_whole

GREATEST_DEGREE = 8
TOO_GREAT_WEIGHT = 1000000
PRIMES_END = 1000
GREATEST_EXPONENT = 600


def factors(p):
    refuse_too_great(p)
    if p == ():
        return (0, [])
    found = []
    for layer, times in layers(p):
        found.extend([(part, times) for part in split_of(layer)])
    return (unit(p), sorted(found, key=lambda pair: (len(pair[0]), pair[0])))


def refuse_too_great(p):
    if degree(p) > GREATEST_DEGREE or greatest_weight(p) >= TOO_GREAT_WEIGHT:
        raise TooGreat("factors are told up to degree 8, of weights below 10 ** 6")


def greatest_weight(p):
    return max([abs(weight) for weight in p], default=0)


# All that a plain free polynomial is the product of. Choices of fewer parts go first:
# so what is found first doesn't split itself.
def split_of(f):
    t, e, parts = shown_by_prime(f)
    part = found_part(f, whole_power(t, e), parts)
    if part is None:
        return [f]
    return [part] + split_of(whole_part(f, part))


# (t, e, parts): f's parts by the first prime by which it is free, lifted far enough.
def shown_by_prime(f):
    t = 2
    while f[-1] % t == 0 or not is_prime(t) or not free_by(by_number(f, t), t):
        t = t + 1
    e = 1
    while whole_power(t, e) <= far_enough(f):
        e = e + 1
    return (t, e, lifted(f, t, parts_by(by_number(f, t), t), e))


# Twice what a weight of a part of f, times f's last weight, can come to at most.
def far_enough(f):
    return whole_power(2, len(f)) * len(f) * greatest_weight(f) * f[-1]


# A part of f of lesser degree that comes of some of its parts by m, or None.
def found_part(f, m, parts):
    for choice in choices_of(parts):
        part = plain(balanced(scaled(product_by(choice, m), f[-1]), m))
        if whole_part(f, part) is not None:
            return part
    return None


# All choices but none and all, those of fewer first.
def choices_of(things):
    found = [[]]
    for thing in things:
        found = found + [choice + [thing] for choice in found]
    return sorted(found, key=len)[1:-1]


# With remainders by m above minus half of it and not above half of it.
def balanced(one, m):
    return tuple([weight - m if 2 * weight > m else weight for weight in by_number(one, m)])


def part_paper(f):
    return () if degree(f) == 1 else shown_by_prime(f)


def part_right(f, paper):
    if not isinstance(paper, tuple) or degree(f) < 1 or degree(f) > GREATEST_DEGREE:
        return False
    if degree(f) == 1:
        return len(paper) == 0
    if not has_shape(f, paper):
        return False
    t, e, parts = paper
    m = whole_power(t, e)
    if m <= far_enough(f) or not all([is_single_by(part, m) for part in parts]):
        return False
    # Ahead of the product, which of great parts would be costly.
    if sum([degree(part) for part in parts]) != degree(f):
        return False
    if by_number(scaled(product_by(parts, m), f[-1]), m) != by_number(f, m):
        return False
    return are_unsplit(parts, t) and found_part(f, m, parts) is None


# Whether a paper is (t, e, a list) with such t and e and such a length.
def has_shape(f, paper):
    if len(paper) != 3:
        return False
    t, e, parts = paper
    if not is_whole(t) or t >= PRIMES_END or not is_prime(t) or f[-1] % t == 0:
        return False
    if not is_whole(e) or e < 1 or e > GREATEST_EXPONENT:
        return False
    return isinstance(parts, list) and len(parts) >= 1 and len(parts) <= degree(f)


def is_single_by(part, m):
    if not is_poly(part) or degree(part) < 1 or part[-1] != 1:
        return False
    return all([weight >= 0 and weight < m for weight in part])


def are_unsplit(parts, t):
    told = [by_number(part, t) for part in parts]
    return len(set(told)) == len(told) and not any([splits_by(part, t) for part in told])


def factor_paper(p):
    whole, found = factors(p)
    return (whole, [(part, times, part_paper(part)) for part, times in found])


def factors_right(p, paper):
    if degree(p) > GREATEST_DEGREE or not isinstance(paper, tuple) or len(paper) != 2:
        return False
    whole, rows = paper
    if not is_whole(whole) or not isinstance(rows, list) or (whole == 0 and len(rows) > 0):
        return False
    if not all([is_factor_row(row) for row in rows]):
        return False
    # Ahead of the product, as times may be too great for it to be held.
    if whole != 0 and sum([degree(row[0]) * row[1] for row in rows]) != degree(p):
        return False
    if len(set([row[0] for row in rows])) != len(rows) or multiplied_out(whole, rows) != p:
        return False
    return all([part_right(row[0], row[2]) for row in rows])


def is_factor_row(row):
    if not isinstance(row, tuple) or len(row) != 3:
        return False
    part, times = row[:2]
    return is_poly(part) and degree(part) >= 1 and plain(part) == part and is_whole(times) and times >= 1


def multiplied_out(whole, rows):
    product = scaled((1,), whole)
    for part, times, paper in rows:
        product = p_times(product, power(part, times))
    return product
