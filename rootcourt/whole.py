"""Whole numbers: common divisors, common multiples, roots of squares."""


def is_whole(thing):
    # Python counts True and False among its ints, the house does not.
    return isinstance(thing, int) and not isinstance(thing, bool)


def divisor(one, other):
    greater = abs(one)
    lesser = abs(other)
    while lesser != 0:
        greater, lesser = lesser, greater % lesser
    return greater


def divisor_of(some):
    found = 0
    for number in some:
        found = divisor(found, number)
        # Nothing behind can make a divisor of 1 any less.
        if found == 1:
            return found
    return found


def common(one, other):
    if one == 0 or other == 0:
        return 0
    return abs(one) // divisor(one, other) * abs(other)


def root_floor(number):
    if number == 0:
        return 0
    # Newton's steps fall to the root only from a start that isn't below it.
    guess = 1
    for bit in range((number.bit_length() + 1) // 2):
        guess = guess * 2
    better = (guess + number // guess) // 2
    while better < guess:
        guess = better
        better = (guess + number // guess) // 2
    return guess


def sign_of_whole(number):
    if number == 0:
        return 0
    return 1 if number > 0 else -1
