"""What is told of a number: the least square one more, and the least one less."""

from math import isqrt

from oneapart.answers import Barred, Least, Other, Square
from oneapart.wholes import is_square, least_answer, least_one_less, refuse_no_number


def told(number):
    """A Square with the root, or a Least with the least answer."""
    refuse_no_number(number)
    if is_square(number):
        return Square(isqrt(number))
    one, other = least_answer(number)
    return Least(one, other)


def less(number):
    """A Square with the root, an Other with the least pair that is one less, or a Barred."""
    refuse_no_number(number)
    if is_square(number):
        return Square(isqrt(number))
    pair = least_one_less(number)
    if pair is None:
        one, other = least_answer(number)
        return Barred(one, other)
    one, other = pair
    return Other(one, other)
