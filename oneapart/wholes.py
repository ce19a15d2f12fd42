"""The workings with whole numbers that the files of the interface share."""

from math import isqrt

from oneapart.errors import BadNumber, IsSquare

LEAST_NUMBER = 2
GREATEST_NUMBER = 1000000


def is_whole(value):
    """Whether it is a whole number; True and False are none."""
    return isinstance(value, int) and not isinstance(value, bool)


def is_square(number):
    """Whether a whole number from 0 on is a square."""
    root = isqrt(number)
    return root * root == number


def has_chain(number):
    """Whether a whole number is above 0 and no square."""
    return number > 0 and not is_square(number)


def refuse_no_number(number):
    """Raise BadNumber unless it is a number."""
    if not is_whole(number) or number not in range(LEAST_NUMBER, GREATEST_NUMBER + 1):
        raise BadNumber("not a whole number from 2 to 1000000")


def refuse_square(number):
    """Raise IsSquare if the number is a square."""
    if is_square(number):
        raise IsSquare("the number is a square")


def round_of(number):
    """The shortest round of the chain of a number that is no square."""
    first = isqrt(number)
    parts = []
    # What is left of the root after each part is (root + added) / below.
    added, below, part = 0, 1, first
    # Only where the round closes is below 1 again, and the part twice the
    # first one: elsewhere below is at least 2, and the part at most the first.
    while part != 2 * first:
        added = part * below - added
        below = (number - added * added) // below
        part = (first + added) // below
        parts.append(part)
    return parts


def nearest_pair(number):
    """The least pair above 0 whose squares, of a number that is no square, are one apart either way."""
    one_before, other_before = 1, 0
    one, other = isqrt(number), 1
    # The round's last part is left out: the fraction that the chain gives just
    # before it is the first one, and the least, that is only one apart.
    for part in round_of(number)[:-1]:
        one_before, one = one, part * one + one_before
        other_before, other = other, part * other + other_before
    return one, other


def is_one_less(number, pair):
    """Whether the first one's square is one less than so many times the other one's."""
    one, other = pair
    return one * one + 1 == number * other * other


def least_one_less(number):
    """The least pair that is one less, of a number that is no square; None where there is none."""
    pair = nearest_pair(number)
    if is_one_less(number, pair):
        return pair
    return None


def least_answer(number):
    """The least answer but (1, 0) of a number that is no square."""
    pair = nearest_pair(number)
    # Where a pair is one less, the least answer is that pair put together with itself.
    if is_one_less(number, pair):
        return put_together(number, pair, pair)
    return pair


def put_together(number, left, right):
    """Two pairs of a number put together."""
    one, other = left
    by_one, by_other = right
    return one * by_one + number * other * by_other, one * by_other + other * by_one
