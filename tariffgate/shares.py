"""Whole numbers, and shares: fractions in lowest terms, told as tuples (top, bottom)."""

from tariffgate.errors import NoNumber


# Python counts True and False among its ints; here no truth is a number.
def is_whole(thing):
    return isinstance(thing, int) and not isinstance(thing, bool)


def common_of(one, other):
    larger = abs(one)
    smaller = abs(other)
    while smaller != 0:
        rest = larger % smaller
        larger = smaller
        smaller = rest
    return larger


def share_of(top, bottom):
    if not is_whole(top) or not is_whole(bottom) or bottom == 0:
        raise NoNumber("a share is made of two whole numbers, the second not 0")
    common = common_of(top, bottom)
    # The sign goes to the top, so that each share has one form alone.
    if bottom < 0:
        common = -common
    return (top // common, bottom // common)


def is_share(thing):
    if not isinstance(thing, tuple) or len(thing) != 2:
        return False
    if not is_whole(thing[0]) or not is_whole(thing[1]):
        return False
    return thing[1] >= 1 and common_of(thing[0], thing[1]) == 1


def plus(one, other):
    return share_of(one[0] * other[1] + other[0] * one[1], one[1] * other[1])


def minus(one, other):
    return share_of(one[0] * other[1] - other[0] * one[1], one[1] * other[1])


def times(one, other):
    return share_of(one[0] * other[0], one[1] * other[1])


# Bottoms are above 0, so multiplying by both of them keeps the order.
def under(one, other):
    return one[0] * other[1] < other[0] * one[1]


def total_of(shares):
    total = (0, 1)
    for share in shares:
        total = plus(total, share)
    return total


# Python's own division rounds down below nought too, which is what a whole is.
def whole_of(share):
    return (share[0] // share[1], share[0] % share[1])
