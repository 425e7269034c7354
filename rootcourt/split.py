"""Primes, and the parts of a polynomial by a prime."""

from rootcourt.modular import by_number, m_minus, m_parted, m_plus, m_power, m_shared, single
from rootcourt.polys import degree, derived, poly, raised, whole_power
from rootcourt.whole import root_floor

X = (0, 1)


def is_prime(number):
    if number < 2:
        return False
    for lesser in range(2, root_floor(number) + 1):
        if number % lesser == 0:
            return False
    return True


def splits_by(one, t):
    f = by_number(one, t)
    turned = X
    for size in range(1, degree(f) // 2 + 1):
        turned = m_power(turned, t, f, t)
        if degree(fixed_part(f, turned, t)) > 0:
            return True
    return False


# The common part of f and turned - x, turned being x to the power t, so many times over:
# this is 0 just where as many steps lead back, so at the roots of all that don't split
# and whose degree divides that number.
def fixed_part(f, turned, t):
    return m_shared(f, m_minus(turned, X, t), t)


def free_by(one, t):
    return degree(m_shared(one, derived(one), t)) == 0


def parts_by(one, t):
    found = []
    rest = single(one, t)
    turned = X
    size = 1
    while 2 * size <= degree(rest):
        turned = m_power(turned, t, rest, t)
        alike = fixed_part(rest, turned, t)
        if degree(alike) > 0:
            found.extend(parts_of_size(alike, size, t))
            rest = m_parted(rest, alike, t)[0]
        size = size + 1
    if degree(rest) > 0:
        found.append(rest)
    return sorted(found, key=lambda part: (len(part), part))


# The parts of f, all of which have one and the same degree.
def parts_of_size(f, size, t):
    if degree(f) <= size:
        return [f]
    turn = 1
    part = m_shared(f, parting(f, size, t, turn), t)
    while degree(part) in (0, degree(f)):
        turn = turn + 1
        part = m_shared(f, parting(f, size, t, turn), t)
    other = m_parted(f, part, t)[0]
    return parts_of_size(part, size, t) + parts_of_size(other, size, t)


# At some turn this is 0 by some parts of f and not by the others. By each part the power
# of a trial is 1, -1 or 0, and in time every polynomial is tried. By 2 such a power says
# nothing; there the sum of a trial's turned ones is 0 or 1, and the powers of x are enough
# to try, as a sum of trials has the sum of theirs.
def parting(f, size, t, turn):
    if t == 2:
        return turned_sum(raised((1,), turn), f, size)
    trial = poly(figures(turn + t - 1, t))
    return m_minus(m_power(trial, (whole_power(t, size) - 1) // 2, f, t), (1,), t)


def turned_sum(one, f, size):
    turned = m_power(one, 1, f, 2)
    total = turned
    for step in range(1, size):
        turned = m_power(turned, 2, f, 2)
        total = m_plus(total, turned, 2)
    return total


def figures(number, base):
    found = []
    left = number
    while left > 0:
        found.append(left % base)
        left = left // base
    return found
