"""Points 2 and 5: whether an object is right of a number, also one made by hand."""

import unittest
from math import isqrt

from oneapart.answers import Barred, Least, Other, Square
from oneapart.apart import less, told
from oneapart.counting import answer_by
from tests.trying import BESIDE, KNOWN_BARRED, KNOWN_LEAST, KNOWN_OTHER, OTHERS, SMALL, SQUARES

HUGE = 10 ** 5000


class Shows(unittest.TestCase):
    def assert_shows(self, answer, number):
        self.assertIs(answer.shows(number), True, (answer.__class__, vars(answer), number))

    def assert_shows_not(self, answer, number):
        self.assertIs(answer.shows(number), False, (answer.__class__, number))

    def assert_only(self, made, one, other, number):
        """The class holds of the number with just these fields."""
        self.assert_shows(made(one, other), number)
        wrong = [
            (one + 1, other), (one - 1, other), (one, other + 1), (one, other - 1), (one + 1, other + 1),
            (-one, other), (one, -other), (-one, -other), (0, 0), (1, 0), (0, 1), (one, 0), (0, other),
            (-1, 0), (0, -1), (HUGE, HUGE), (-HUGE, other), (one, HUGE), (one + HUGE, other), (2 * one, 2 * other),
        ]
        if one != other:
            wrong.append((other, one))
        for fields in wrong:
            self.assert_shows_not(made(*fields), number)

    def test_what_is_told_shows(self):
        for number in OTHERS + SQUARES:
            self.assert_shows(told(number), number)
            self.assert_shows(less(number), number)

    def test_square_by_hand(self):
        for number in SQUARES:
            root = isqrt(number)
            self.assert_shows(Square(root), number)
            for wrong in [root + 1, root - 1, -root, 0, 1, -1, number, HUGE, -HUGE, root + HUGE]:
                self.assert_shows_not(Square(wrong), number)

    def test_square_of_no_square(self):
        for number in SMALL + BESIDE:
            for root in range(-3, isqrt(number) + 3):
                self.assert_shows_not(Square(root), number)

    def test_least_by_hand(self):
        for number, (one, other) in KNOWN_LEAST.items():
            self.assert_only(Least, one, other, number)

    def test_later_answers_are_not_the_least(self):
        for number, (one, other) in KNOWN_LEAST.items():
            for count in [0, 2, 3, 10]:
                later = answer_by(number, count)
                self.assert_shows_not(Least(*later), number)
                self.assert_shows_not(Barred(*later), number)

    def test_least_of_a_square(self):
        for number in SQUARES:
            for fields in [(1, 0), (0, 0), (isqrt(number), 1), (isqrt(number), 0), (3, 2), (2, 1)]:
                self.assert_shows_not(Least(*fields), number)

    def test_other_by_hand(self):
        for number, (one, other) in KNOWN_OTHER.items():
            self.assert_only(Other, one, other, number)

    def test_later_pairs_that_are_one_less_are_not_the_least(self):
        for number, (one, other) in KNOWN_OTHER.items():
            least = answer_by(number, 1)
            later = (one * least[0] + number * other * least[1], one * least[1] + other * least[0])
            self.assertEqual(later[0] ** 2, number * later[1] ** 2 - 1)
            self.assert_shows_not(Other(*later), number)
            self.assert_shows_not(Other(*least), number)
            self.assert_shows_not(Least(one, other), number)

    def test_other_of_a_square_or_a_barred_one(self):
        for number in SQUARES + KNOWN_BARRED:
            for fields in [(1, 1), (0, 1), (isqrt(number), 1), (1, 0), (0, 0), answer_or_first(number)]:
                self.assert_shows_not(Other(*fields), number)

    def test_barred_by_hand(self):
        for number in KNOWN_BARRED:
            self.assert_only(Barred, *answer_by(number, 1), number)

    def test_barred_where_a_pair_is_one_less(self):
        for number, pair in KNOWN_OTHER.items():
            self.assert_shows_not(Barred(*answer_by(number, 1)), number)
            self.assert_shows_not(Barred(*pair), number)

    def test_barred_of_a_square(self):
        for number in SQUARES:
            for fields in [(1, 0), (0, 0), (isqrt(number), 1), (3, 2), (2, 1)]:
                self.assert_shows_not(Barred(*fields), number)

    def test_one_of_the_three_at_most(self):
        for number in SMALL + SQUARES:
            fields = [answer_or_first(number)]
            found = less(number)
            if type(found) is Other:
                fields.append((found.one, found.other))
            shown = [made for made in [Other, Barred] for pair in fields if made(*pair).shows(number)]
            if Square(isqrt(number)).shows(number):
                shown.append(Square)
            self.assertEqual(shown, [type(found)])

    def test_all_small_fields(self):
        for number in [2, 3, 5, 7, 8]:
            fields = [(one, other) for one in range(-20, 21) for other in range(-20, 21)]
            for made in [Least, Other, Barred]:
                shown = [pair for pair in fields if made(*pair).shows(number)]
                expected = [pair for pair in [(told(number).one, told(number).other)] if made is Least]
                if type(less(number)) is made:
                    expected = [(less(number).one, less(number).other)]
                self.assertEqual(shown, expected)

    def test_of_other_numbers(self):
        for number in range(2, 100):
            self.assertIs(Square(5).shows(number), number == 25)
            self.assertIs(Least(8, 3).shows(number), number == 7)
            self.assertIs(Least(3, 2).shows(number), number == 2)
            self.assertIs(Least(3, 1).shows(number), number == 8)
            self.assertIs(Other(18, 5).shows(number), number == 13)
            self.assertIs(Barred(8, 3).shows(number), number == 7)

    def test_by_the_fields_as_they_stand(self):
        square, least, other, barred = told(9), told(7), less(13), less(7)
        square.root = 4
        least.one, least.other = 2, 1
        other.one, other.other = 2, 1
        barred.one, barred.other = 2, 1
        for found, before, now in [(square, 9, 16), (least, 7, 3), (other, 13, 5), (barred, 7, 3)]:
            self.assert_shows_not(found, before)
            self.assert_shows(found, now)
            self.assert_shows(found, now)

    def test_asking_changes_no_field(self):
        for number in [5, 7, 9]:
            for found in [told(number), less(number)]:
                kept = dict(vars(found))
                found.shows(number)
                found.shows(number + 1)
                self.assertEqual(vars(found), kept)

    def test_beyond_the_numbers_raises_nothing(self):
        for number in [-2, -1, 0, 1, 1000001, 1000003]:
            for answer in [Square(3), Least(3, 2), Other(1, 1), Barred(2, 1), Least(1, 0), Least(1, 1), Square(0)]:
                self.assertIs(answer.shows(number), False)


def answer_or_first(number):
    """The least answer, or (1, 0) where there is no other."""
    if type(told(number)) is Square:
        return (1, 0)
    return answer_by(number, 1)


if __name__ == "__main__":
    unittest.main()
