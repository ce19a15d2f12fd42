"""The answers of a number by their own numbers, and two of them put together."""

from oneapart.errors import BadAnswer, BadCount
from oneapart.wholes import is_whole, least_answer, put_together, refuse_no_number, refuse_square

GREATEST_COUNT = 100


def answer_by(number, count):
    """The answer that has this number of its own."""
    refuse_no_number(number)
    refuse_square(number)
    _refuse_no_count(count)
    least = least_answer(number)
    one, other = 1, 0
    for _ in range(count):
        one, other = put_together(number, (one, other), least)
    return one, other


def count_of(number, answer):
    """The number that an answer has of its own."""
    refuse_no_number(number)
    refuse_square(number)
    _refuse_no_answer(number, answer)
    sought, _ = answer
    count = 0
    reached = (1, 0)
    steps = _doubled_steps(number, sought)
    # From the greatest step down, so that an answer of any size takes few steps.
    for many, step in reversed(steps):
        further = put_together(number, reached, step)
        if further[0] <= sought:
            count += many
            reached = further
    return count


def together(number, one, other):
    """The answer of two answers put together."""
    refuse_no_number(number)
    _refuse_no_answer(number, one)
    _refuse_no_answer(number, other)
    return put_together(number, one, other)


def _doubled_steps(number, sought):
    """The counts 1, 2, 4 and so on with their answers, until one's first number is not below the sought one."""
    many = 1
    step = least_answer(number)
    steps = [(many, step)]
    while step[0] < sought:
        many = 2 * many
        step = put_together(number, step, step)
        steps.append((many, step))
    return steps


def _refuse_no_count(count):
    """Raise BadCount unless it is a count that answer_by takes."""
    if not is_whole(count) or count not in range(GREATEST_COUNT + 1):
        raise BadCount("not a whole number from 0 to 100")


def _refuse_no_answer(number, answer):
    """Raise BadAnswer unless it is an answer of the number."""
    if not isinstance(answer, tuple) or not _is_answer(number, answer):
        raise BadAnswer("not an answer of the number")


def _is_answer(number, pair):
    """Whether a tuple is a pair of whole numbers from 0 on, one more as the number says."""
    match pair:
        case (one, other):
            return _is_from_0(one) and _is_from_0(other) and one * one == number * other * other + 1
        case _:
            return False


def _is_from_0(value):
    """Whether it is a whole number from 0 on."""
    return is_whole(value) and value >= 0
