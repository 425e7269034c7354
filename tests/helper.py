"""What several test files need: samples, and a reckoning of another make to compare with."""

from fractions import Fraction
from math import gcd, lcm
from random import Random


class Odd:
    """A thing that can neither be compared nor measured nor asked whether it is true."""

    def __eq__(self, other):
        raise RuntimeError("compared")

    def __bool__(self):
        raise RuntimeError("asked for its truth")

    def __len__(self):
        raise RuntimeError("measured")

    __hash__ = None


def no_tuples():
    """Things of many kinds, none of them a tuple."""
    return [None, True, False, 0, 1, -3, 10 ** 60, 1.5, "", "x", "(1, 2)", b"12", [], [1, 2], [[1], [2]],
            {}, {1: 2}, set(), frozenset((1, 2)), range(3), object(), int, len, Odd(), Fraction(1, 2)]


def anything():
    """Things of many kinds, tuples that mean nothing among them."""
    return no_tuples() + [(None,), ((),), ("x",), (1.5, 2), (True,), (True, 1), (1, True), (Odd(),), (Odd(), Odd()),
                          ([1], [2]), (1, 2, 3, 4, 0), ((), (), (), (), ()), (Odd(),) * 6, (Odd(),) * 7,
                          (None,) * 6, (None,) * 7, ((None,),) * 6, ((None,),) * 7]


def source(seed):
    return Random(seed)


def some_whole(random, figures):
    return random.randint(-10 ** figures, 10 ** figures)


def some_fraction(random, figures):
    """A fraction, as Python's own."""
    return Fraction(some_whole(random, figures), random.randint(1, 10 ** figures))


def some_poly(random, most, figures):
    """A polynomial of a degree from 0 up to most; its last weight isn't 0."""
    weights = [some_whole(random, figures) for place in range(random.randint(0, most))]
    last = random.randint(1, 10 ** figures) * random.choice((1, -1))
    return tuple(weights) + (last,)


def told(number):
    """Python's own fraction as the house tells it."""
    number = Fraction(number)
    return (number.numerator, number.denominator)


def meant(pair):
    return Fraction(pair[0], pair[1])


def trimmed(weights):
    weights = list(weights)
    while weights and weights[-1] == 0:
        weights.pop()
    return tuple(weights)


def added(one, other):
    size = max(len(one), len(other))
    return trimmed((one[i] if i < len(one) else 0) + (other[i] if i < len(other) else 0) for i in range(size))


def multiplied(*many):
    """The product, weight by weight, of polynomials with any weights."""
    found = (1,)
    for one in many:
        weights = [0] * (len(found) + len(one))
        for i, left in enumerate(found):
            for j, right in enumerate(one):
                weights[i + j] += left * right
        found = trimmed(weights)
    return found


def value_at(one, point):
    return sum((weight * Fraction(point) ** i for i, weight in enumerate(one)), Fraction(0))


def divided(one, other):
    """Quotient and rest with fractions as weights."""
    rest = [Fraction(weight) for weight in one]
    quotient = [Fraction(0)] * max(len(one) - len(other) + 1, 0)
    for place in reversed(range(len(quotient))):
        quotient[place] = rest[place + len(other) - 1] / other[-1]
        for further, weight in enumerate(other):
            rest[place + further] -= quotient[place] * weight
    return trimmed(quotient), trimmed(rest)


def made_plain(one):
    """The plain polynomial that is a number of times this one, fractions among its weights or not."""
    if not one:
        return ()
    bottom = lcm(*[Fraction(weight).denominator for weight in one])
    weights = [int(weight * bottom) for weight in one]
    shared = gcd(*weights) * (1 if weights[-1] > 0 else -1)
    return tuple(weight // shared for weight in weights)


def common_part(one, other):
    """By Euclid's way with fractions."""
    while other:
        one, other = other, made_plain(divided(one, other)[1])
    return made_plain(one)


def slope(one):
    return trimmed(place * weight for place, weight in enumerate(one))[1:]


def sturm_rows(one):
    rows = [one, slope(one)]
    while rows[-1]:
        rows.append(tuple(-weight for weight in divided(rows[-2], rows[-1])[1]))
    return rows[:-1]


def roots_below(one, point):
    """How many real roots, each counted once, a polynomial has up to a point that is none."""
    rows = sturm_rows(one)
    at_start = [row[-1] * (-1) ** (len(row) - 1) for row in rows]
    return turns(at_start) - turns([value_at(row, point) for row in rows])


def turns(row):
    signs = [weight > 0 for weight in row if weight != 0]
    return sum(1 for left, right in zip(signs, signs[1:]) if left != right)


def spoiled(paper):
    """Things that differ from a paper in one place alone, each so that it isn't right any more."""
    found = [list(paper), paper[:-1], paper[1:], paper + ((),), paper + (1,), ((),) + paper, (), (paper,), {0: paper}]
    for place, thing in enumerate(paper):
        for other in spoiled_things(thing):
            found.append(paper[:place] + (other,) + paper[place + 1:])
    return found


def spoiled_things(thing):
    found = [None, "", "1", True, False, 1.5, Odd(), [thing], (thing,), (None,), (True,), (1.0,)]
    if isinstance(thing, int):
        return found + [0, str(thing), float(thing), thing + 1 if thing != -1 else 7, -thing]
    found += [list(thing), thing + (0,), thing + (1,), thing + (False,)]
    for place, weight in enumerate(thing):
        found.append(trimmed(thing[:place] + (weight + 1,) + thing[place + 1:]))
        found.append(thing[:place] + (str(weight),) + thing[place + 1:])
        found.append(thing[:place] + (float(weight % 1000),) + thing[place + 1:])
    return found


def linear(number):
    """The plain polynomial of degree 1 that is 0 at a fraction."""
    return (-Fraction(number).numerator, Fraction(number).denominator)


def joined(one, other):
    """The plain polynomial with the roots of both, each once, of two free ones."""
    return made_plain(divided(multiplied(one, other), common_part(one, other))[0])


def squeezed(number, width):
    """Two of Python's fractions, less than a width apart, about a number: by halving alone."""
    p, lo, hi = number[0], meant(number[1]), meant(number[2])
    while hi - lo >= width:
        amid = (lo + hi) / 2
        here = value_at(p, amid)
        if here == 0:
            return amid, amid
        if (here > 0) == (value_at(p, lo) > 0):
            lo = amid
        else:
            hi = amid
    return lo, hi


def rank(number, roots):
    """How many of the real roots of a free polynomial lie below a number that is one of them."""
    if number[1] == number[2]:
        lo = hi = meant(number[1])
    else:
        lo, hi = meant(number[1]), meant(number[2])
    while lo < hi:
        if value_at(roots, lo) != 0 and value_at(roots, hi) != 0 and roots_below(roots, hi) - roots_below(roots, lo) == 1:
            return roots_below(roots, lo)
        lo, hi = squeezed(number, (hi - lo) / 2 if lo < hi else 1)
    rest = divided(roots, linear(lo))[0]
    return roots_below(rest, lo) if len(rest) > 1 else 0


def order_by_rank(one, other):
    roots = joined(one[0], other[0])
    left, right = rank(one, roots), rank(other, roots)
    return (left > right) - (left < right)


def point(number):
    """A fraction's number told as a point."""
    return (linear(number), told(number), told(number))


def stretch(p, lo, hi):
    return (p, told(Fraction(lo)), told(Fraction(hi)))


ROOT_TWO = stretch((-2, 0, 1), 1, 2)
"""The square root of 2."""


def companion(p):
    """The matrix, with Python's fractions, whose characteristic polynomial has the roots of p."""
    size = len(p) - 1
    rows = [[Fraction(int(column == row - 1)) for column in range(size)] for row in range(size)]
    for row in range(size):
        rows[row][size - 1] -= Fraction(p[row], p[-1])
    return rows


def spread_matrix(one, other, deed):
    """Of two matrices, the one whose characteristic roots are all sums, or all products, of theirs."""
    cells = [(i, k) for i in range(len(one)) for k in range(len(other))]
    if deed == "sum":
        return [[one[i][j] * (k == m) + other[k][m] * (i == j) for j, m in cells] for i, k in cells]
    return [[one[i][j] * other[k][m] for j, m in cells] for i, k in cells]


def characteristic(rows):
    """The characteristic polynomial, by the way of Faddeev and LeVerrier."""
    size = len(rows)
    columns = range(size)
    weights = [Fraction(1)]
    held = [[Fraction(int(i == j)) for j in columns] for i in columns]
    for step in range(1, size + 1):
        held = [[sum((row[k] * held[k][j] for k in columns if row[k]), Fraction(0)) for j in columns] for row in rows]
        weights.append(-sum(held[i][i] for i in columns) / step)
        for i in columns:
            held[i][i] += weights[-1]
    return tuple(reversed(weights))


def paired(p, q, deed):
    """The plain free polynomial whose roots are all sums, or all products, of a root of p and one of q."""
    full = made_plain(characteristic(spread_matrix(companion(p), companion(q), deed)))
    return made_plain(divided(full, common_part(full, slope(full)))[0])
