"""Shares: fractions as tuples (top, bottom) of whole numbers, in their least numbers."""

from glassladder.errors import ByNought, NoShare

NOUGHT = (0, 1)
ONE = (1, 1)


def is_whole(thing):
    """Whether it is a whole number; a truth is none."""
    return isinstance(thing, int) and not isinstance(thing, bool)


def is_below(thing, many):
    """Whether anything is a whole number from 0 on that is below many."""
    return is_whole(thing) and 0 <= thing < many


def divisor(one, other):
    """The greatest number that divides both, and nought of two noughts."""
    one = abs(one)
    other = abs(other)
    while other:
        one, other = other, one % other
    return one


def is_share(thing):
    """Whether anything is a share."""
    if not isinstance(thing, tuple) or len(thing) != 2:
        return False
    top, bottom = thing
    return is_whole(top) and is_whole(bottom) and bottom >= 1 and divisor(top, bottom) == 1


def reduced(top, bottom):
    """The share of two whole numbers of which the second is known not to be nought."""
    if bottom == 1:
        return (top, 1)
    by = divisor(top, bottom)
    if bottom < 0:
        by = -by
    return (top // by, bottom // by)


def share(top, bottom=1):
    """The share of one or two whole numbers."""
    if not is_whole(top):
        raise NoShare(top)
    if not is_whole(bottom) or bottom == 0:
        raise NoShare(bottom)
    return reduced(top, bottom)


def plus(one, other):
    """The sum."""
    if one[1] == other[1]:
        return reduced(one[0] + other[0], one[1])
    return reduced(one[0] * other[1] + other[0] * one[1], one[1] * other[1])


def minus(one, other):
    """The difference."""
    return plus(one, (-other[0], other[1]))


def times(one, other):
    """The product."""
    return reduced(one[0] * other[0], one[1] * other[1])


def over(one, other):
    """The quotient."""
    if other[0] == 0:
        raise ByNought("nothing is divided by nought")
    return reduced(one[0] * other[1], one[1] * other[0])


def less(one, other):
    """Whether the former is less than the latter."""
    return one[0] * other[1] < other[0] * one[1]


def total(some, *, start=NOUGHT):
    """The sum of a list of shares and the start."""
    come_to = start
    for one in some:
        come_to = plus(come_to, one)
    return come_to
