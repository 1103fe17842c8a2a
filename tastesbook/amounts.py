"""Whole numbers and shares."""


def is_int(thing):
    # Python counts True and False among its ints; here they are no numbers.
    return isinstance(thing, int) and not isinstance(thing, bool)


def greatest_divisor(one, other):
    larger = one
    smaller = other
    while smaller > 0:
        rest = larger % smaller
        larger = smaller
        smaller = rest
    return larger


def share_of(top, bottom):
    divisor = greatest_divisor(top, bottom)
    return (top // divisor, bottom // divisor)
