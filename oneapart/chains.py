"""The chain of a number: the whole part of its root, and what comes around."""

from math import isqrt

from oneapart.wholes import refuse_no_number, refuse_square, round_of


def chain(number):
    """A pair of the first part and the round, a list."""
    refuse_no_number(number)
    refuse_square(number)
    return isqrt(number), round_of(number)
