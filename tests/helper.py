"""What several test files need: samples, and a reckoning of another make to compare with."""

from fractions import Fraction
from random import Random


class Odd:
    """A thing that can neither be compared nor measured nor asked whether it is true."""

    def __eq__(self, other):
        raise RuntimeError("compared")

    def __bool__(self):
        raise RuntimeError("asked for its truth")

    def __len__(self):
        raise RuntimeError("measured")

    __hash__ = None


def no_tuples():
    """Things of many kinds, none of them a tuple."""
    return [None, True, False, 0, 1, -3, 10 ** 60, 1.5, "", "x", "(1, 2)", b"12", [], [1, 2], [[1], [2]],
            {}, {1: 2}, set(), frozenset((1, 2)), range(3), object(), int, len, Odd(), Fraction(1, 2)]


def anything():
    """Things of many kinds, tuples that mean nothing among them."""
    return no_tuples() + [(None,), ((),), ("x",), (1.5, 2), (True,), (True, 1), (1, True), (Odd(),), (Odd(), Odd()),
                          ([1], [2]), (1, 2, 3, 4, 0), ((), (), (), (), ()), (Odd(),) * 6, (Odd(),) * 7,
                          (None,) * 6, (None,) * 7, ((None,),) * 6, ((None,),) * 7]


def source(seed):
    return Random(seed)


def some_whole(random, figures):
    return random.randint(-10 ** figures, 10 ** figures)


def some_fraction(random, figures):
    """A fraction, as Python's own."""
    return Fraction(some_whole(random, figures), random.randint(1, 10 ** figures))


def some_poly(random, most, figures):
    """A polynomial of a degree from 0 up to most; its last weight isn't 0."""
    weights = [some_whole(random, figures) for place in range(random.randint(0, most))]
    last = random.randint(1, 10 ** figures) * random.choice((1, -1))
    return tuple(weights) + (last,)


def told(number):
    """Python's own fraction as the house tells it."""
    number = Fraction(number)
    return (number.numerator, number.denominator)


def meant(pair):
    return Fraction(pair[0], pair[1])


def trimmed(weights):
    weights = list(weights)
    while weights and weights[-1] == 0:
        weights.pop()
    return tuple(weights)


def added(one, other):
    size = max(len(one), len(other))
    return trimmed((one[i] if i < len(one) else 0) + (other[i] if i < len(other) else 0) for i in range(size))


def multiplied(*many):
    """The product, weight by weight, of polynomials with any weights."""
    found = (1,)
    for one in many:
        weights = [0] * (len(found) + len(one))
        for i, left in enumerate(found):
            for j, right in enumerate(one):
                weights[i + j] += left * right
        found = trimmed(weights)
    return found


def value_at(one, point):
    return sum((weight * Fraction(point) ** i for i, weight in enumerate(one)), Fraction(0))
