"""Changes of sign, and polynomials seen from a fraction or within a stretch."""

from rootcourt.polys import poly
from rootcourt.whole import common


def changes(p):
    many = 0
    ahead = 0
    for weight in p:
        if (weight < 0 and ahead > 0) or (weight > 0 and ahead < 0):
            many = many + 1
        if weight != 0:
            ahead = weight
    return many


def above(p, c):
    return poly(spread(seen_at(p, c[0], c[1]), c[1]))


def below(p, c):
    return poly(spread(seen_at(p, c[0], c[1]), -c[1]))


def between(p, lo, hi):
    bottom = common(lo[1], hi[1])
    first = lo[0] * (bottom // lo[1])
    last = hi[0] * (bottom // hi[1])
    # With z = x / (1 + x), which goes from 0 to 1 where x goes from 0 on,
    # (lo + hi x) / (1 + x) is lo + (hi - lo) z. A power (1 + x)^(n - i) x^i is
    # had by a move of 1 with the weights the other way round.
    weights = spread(seen_at(p, first, bottom), last - first)
    return poly(moved(weights[::-1], 1)[::-1])


# The weights of bottom^n p((top + x) / bottom), n being p's degree.
def seen_at(p, top, bottom):
    weights = spread(p[::-1], bottom)
    return moved(weights[::-1], top)


# The weights of what comes with factor x in the place of x.
def spread(weights, factor):
    found = []
    scale = 1
    for weight in weights:
        found.append(weight * scale)
        scale = scale * factor
    return found


# The weights of what comes with x + by in the place of x, by Horner's scheme.
def moved(weights, by):
    found = list(weights)
    for start in range(len(found) - 1):
        for place in range(len(found) - 2, start - 1, -1):
            found[place] = found[place] + by * found[place + 1]
    return found
