"""What the tests know by trying, without the program's own workings, and what they hand in wrongly."""

from fractions import Fraction
from math import isqrt

SMALL = [number for number in range(2, 200) if isqrt(number) ** 2 != number]
SQUARES = [4, 9, 16, 100, 998001, 1000000]
BESIDE = [3, 5, 8, 10, 99, 101, 998000, 998002, 999999]
GREAT = [991, 9949, 65537, 123457, 500000, 777777, 992566, 999998, 999983]
OTHERS = SMALL + [number for number in BESIDE if number > 200] + GREAT

# Of each, the least answer; all of them known from elsewhere or plain to see.
KNOWN_LEAST = {
    2: (3, 2),
    3: (2, 1),
    7: (8, 3),
    13: (649, 180),
    61: (1766319049, 226153980),
    109: (158070671986249, 15140424455100),
    991: (379516400906811930638014896080, 12055735790331359447442538767),
    998000: (999, 1),
    998002: (1996003, 1998),
    999998: (999999, 1000),
    999999: (1000, 1),
}
KNOWN_OTHER = {
    2: (1, 1),
    5: (2, 1),
    10: (3, 1),
    13: (18, 5),
    41: (32, 5),
    61: (29718, 3805),
    109: (8890182, 851525),
    998002: (999, 1),
}
KNOWN_BARRED = [3, 6, 7, 8, 12, 34, 205, 991, 998000, 999998, 999999]
KNOWN_CHAIN = {
    2: (1, [2]),
    3: (1, [1, 2]),
    7: (2, [1, 1, 1, 4]),
    13: (3, [1, 1, 1, 1, 6]),
    14: (3, [1, 2, 1, 6]),
    23: (4, [1, 3, 1, 8]),
    61: (7, [1, 4, 3, 1, 2, 2, 1, 3, 4, 1, 14]),
    998002: (999, [1998]),
    999999: (999, [1, 1998]),
}


class SevenLike:
    """Equal to 7 and to be counted with, but no whole number."""

    def __index__(self):
        return 7

    def __eq__(self, other):
        return other == 7

    __hash__ = None


class Touchy:
    """Refuses to be compared, measured, shown or tested."""

    def _refuse(self, *_):
        raise RuntimeError("touched")

    __eq__ = __lt__ = __le__ = __gt__ = __ge__ = _refuse
    __len__ = __bool__ = __iter__ = __repr__ = __str__ = _refuse
    __hash__ = None


def odd_values():
    """Values of many kinds that are no whole numbers and no tuples."""
    endless = []
    endless.append(endless)
    return [
        None, True, False, "7", "", b"7", [7], [], {7: 7}, {}, {7}, frozenset([7]), range(7), 7.0, 7.5,
        float("nan"), float("inf"), 7j, Fraction(7), Fraction(15, 2), int, object(), len, iter([7]), endless,
        SevenLike(), Touchy(),
    ]


def no_numbers():
    """Values that are no numbers of the program."""
    return odd_values() + [(7,), (), (8, 3), 1, 0, -1, -2, -7, -1000000, 1000001, 1000002, 10 ** 30, -10 ** 30,
                           10 ** 5000]


def no_counts():
    """Values that are no counts that answer_by takes."""
    return odd_values() + [(1,), (), -1, -2, -100, 101, 102, 1000, 10 ** 30, -10 ** 30, 10 ** 5000]


def no_answers():
    """Values that are no answers of 7, whose least one is (8, 3)."""
    return odd_values() + [
        7, 0, 1, 8, [8, 3], [1, 0], "10", "83", b"\x08\x03", {8: 3, 3: 8}, {8: 3},
        (), (1,), (8,), (8, 3, 0), (1, 0, 0), ((8, 3),), (8, (3,)), ([8], 3), ("8", "3"), ("1", "0"),
        (8, None), (None, 3), (None, None), (True, False), (1, False), (True, 0), (8.0, 3.0), (8, 3.0), (8.0, 3),
        (Fraction(8), 3), (8, Touchy()), (Touchy(), 3), (float("nan"), 0), (float("inf"), float("inf")),
        (-8, 3), (8, -3), (-8, -3), (-1, 0), (0, 1), (0, 0), (1, 1), (3, 8), (9, 3), (7, 3), (8, 4), (8, 2),
        (3, 2), (5, 2), (127, 49), (128, 48), (10 ** 5000, 10 ** 4999),
    ]


def tried_pairs(number, apart, most):
    """All pairs with a second one from 0 to most whose first one's square is so many times its square and apart."""
    found = []
    for other in range(most + 1):
        square = number * other * other + apart
        if square >= 0 and isqrt(square) ** 2 == square:
            found.append((isqrt(square), other))
    return found


def multiplied(number, answer, count):
    """The answer with this number, by multiplying root sums out one at a time."""
    whole, roots = 1, 0
    for _ in range(count):
        whole, roots = whole * answer[0] + number * roots * answer[1], whole * answer[1] + roots * answer[0]
    return whole, roots


def is_barred_by(number, answer):
    """Whether a least answer bars a pair that is one less, by the words of the document."""
    for root in range(1, isqrt(answer[0]) + 1):
        if 2 * root * root == answer[0] - 1 and answer[1] % (2 * root) == 0:
            return False
    return True
