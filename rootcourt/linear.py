"""Linear equations: all solutions, or that there is none, with papers for both."""

from rootcourt.errors import NoShape
from rootcourt.ratios import fraction, is_fraction, minus
from rootcourt.whole import is_whole

MOST = 6
NOUGHT = (0, 1)
ONE = (1, 1)


def solved(rows, right):
    refuse_shapes(rows, right)
    unknowns = len(rows[0])
    led, reduced, lead = reduced_rows(whole_rows(rows, right), unknowns)
    for row in reduced[len(led):]:
        if row[unknowns] != 0:
            return ("none", fractions(row[unknowns + 1:], row[unknowns]))
    free = [place for place in range(unknowns) if place not in led]
    x = [NOUGHT] * unknowns
    for place, row in zip(led, reduced):
        x[place] = fraction(row[unknowns], lead)
    base = [base_of(place, led, reduced, lead, unknowns) for place in free]
    return ("all", x, free, base, [fractions(row[unknowns + 1:], lead) for row in reduced[:len(led)]])


def refuse_shapes(rows, right):
    if not is_list_of(rows, 1, MOST) or not all([is_list_of(row, 1, MOST) for row in rows]):
        raise NoShape("rows are a list of one to six lists of one to six fractions")
    if not all([len(row) == len(rows[0]) for row in rows]):
        raise NoShape("the rows are of unlike lengths")
    if not is_list_of(right, len(rows), len(rows)):
        raise NoShape("there is one right fraction for each row")


def is_list_of(thing, fewest, most):
    return isinstance(thing, list) and len(thing) >= fewest and len(thing) <= most


# Each row times a number that makes it whole; behind its unknowns it has its right one,
# and then how often each row handed in is in it.
def whole_rows(rows, right):
    found = []
    for place, row in enumerate(rows):
        tops, bottom = over_one_bottom(row + [right[place]])
        found.append(tops + [bottom if place == other else 0 for other in range(len(rows))])
    return found


# (tops, bottom): the bottom isn't always the least, as seeking that is dear.
def over_one_bottom(some):
    bottom = 1
    for one in some:
        if bottom % one[1] != 0:
            bottom = bottom * one[1]
    return ([one[0] * (bottom // one[1]) for one in some], bottom)


# (led, rows, lead): rows that are sums of multiples of the ones handed in, the first ones
# each with the lead at its own unknown, told in led, where all the others have 0; the
# further ones have 0 at all unknowns. By Bareiss's way, in which everything stays whole.
def reduced_rows(rows, unknowns):
    left = rows
    led = []
    lead = 1
    for unknown in range(unknowns):
        turn = len(led)
        fitting = [place for place in range(turn, len(left)) if left[place][unknown] != 0]
        if len(fitting) > 0:
            left = swapped(left, turn, fitting[0])
            left = cleared(left, turn, unknown, lead)
            lead = left[turn][unknown]
            led.append(unknown)
    return (led, left, lead)


def swapped(rows, one, other):
    found = list(rows)
    found[one] = rows[other]
    found[other] = rows[one]
    return found


# The rows with 0 at an unknown but in the row of this turn. All weights are determinants
# of weights of the first rows: so the lead of the turn ahead divides what comes.
def cleared(rows, turn, unknown, lead):
    leader = rows[turn]
    found = []
    for place, row in enumerate(rows):
        if place == turn:
            found.append(leader)
        else:
            found.append([(leader[unknown] * weight - row[unknown] * other) // lead
                          for weight, other in zip(row, leader)])
    return found


def fractions(tops, bottom):
    return [fraction(top, bottom) for top in tops]


def base_of(here, led, reduced, lead, unknowns):
    found = unit_list(unknowns, here)
    for place, row in zip(led, reduced):
        found[place] = fraction(-row[here], lead)
    return found


def unit_list(length, here):
    return [ONE if place == here else NOUGHT for place in range(length)]


def solved_right(rows, right, paper):
    refuse_shapes(rows, right)
    if not isinstance(paper, tuple) or len(paper) not in (2, 5) or not isinstance(paper[0], str):
        return False
    if len(paper) == 2:
        return paper[0] == "none" and none_right(rows, right, paper[1])
    return paper[0] == "all" and all_right(rows, right, paper[1:])


def none_right(rows, right, ys):
    if not are_fractions(ys, len(rows)):
        return False
    full = [row + [right[place]] for place, row in enumerate(rows)]
    return come_to(columns_of(full), ys, [NOUGHT] * len(rows[0]) + [ONE])


def are_fractions(thing, length):
    return is_list_of(thing, length, length) and all([is_fraction(entry) for entry in thing])


def columns_of(rows):
    return [[row[place] for row in rows] for place in range(len(rows[0]))]


# Whether the products of each list with some fractions come to what is wanted of it.
def come_to(lists, some, wanted):
    factors, scale = over_one_bottom(some)
    for one, sought in zip(lists, wanted):
        weights = over_one_bottom(one + [sought])[0]
        if sum([weight * factor for weight, factor in zip(weights, factors)]) != weights[-1] * scale:
            return False
    return True


def all_right(rows, right, paper):
    x, free, base, ys = paper
    unknowns = len(rows[0])
    if not are_fractions(x, unknowns) or not is_choice(free, unknowns):
        return False
    if not are_lists(base, len(free), unknowns) or not are_lists(ys, unknowns - len(free), len(rows)):
        return False
    if any([x[place] != NOUGHT for place in free]) or not come_to(rows, x, right):
        return False
    if not all([is_base(rows, one, free, place) for one, place in zip(base, free)]):
        return False
    led = [place for place in range(unknowns) if place not in free]
    return all([shows(rows, one, free, base, place) for one, place in zip(ys, led)])


# Whether it is a strictly rising list of numbers of unknowns.
def is_choice(free, unknowns):
    if not is_list_of(free, 0, unknowns):
        return False
    if not all([is_whole(place) and place >= 0 and place < unknowns for place in free]):
        return False
    return all([one < other for one, other in zip(free, free[1:])])


def are_lists(thing, many, length):
    return is_list_of(thing, many, many) and all([are_fractions(one, length) for one in thing])


def is_base(rows, one, free, here):
    if any([one[place] != (ONE if place == here else NOUGHT) for place in free]):
        return False
    return come_to(rows, one, [NOUGHT] * len(rows))


# Whether such multiples of the rows show the unknown here by the free ones alone.
def shows(rows, ys, free, base, here):
    wanted = unit_list(len(rows[0]), here)
    for place, one in zip(free, base):
        wanted[place] = minus(NOUGHT, one[here])
    return come_to(columns_of(rows), ys, wanted)
