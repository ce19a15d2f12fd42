"""Point 3: answers by their numbers, and two of them put together."""

import unittest

from oneapart.counting import answer_by, count_of, together
from tests.trying import GREAT, KNOWN_LEAST, SMALL, SQUARES, multiplied, tried_pairs


class AnswerBy(unittest.TestCase):
    def test_the_first_is_1_and_0_and_the_next_the_least(self):
        for number, least in KNOWN_LEAST.items():
            self.assertEqual(answer_by(number, 0), (1, 0))
            self.assertEqual(answer_by(number, 1), least)

    def test_a_pair_of_whole_numbers(self):
        for count in [0, 1, 2, 100]:
            found = answer_by(7, count)
            self.assertIs(type(found), tuple)
            self.assertEqual([type(part) for part in found], [int, int])

    def test_no_answer_is_left_out(self):
        for number in SMALL:
            found = tried_pairs(number, 1, 20000)
            self.assertEqual([answer_by(number, count) for count in range(len(found))], found)
            self.assertGreater(answer_by(number, len(found))[1], 20000)

    def test_to_the_greatest_count(self):
        for number in [2, 61, 999999, 992566]:
            least = answer_by(number, 1)
            for count in [2, 3, 50, 99, 100]:
                self.assertEqual(answer_by(number, count), multiplied(number, least, count))

    def test_rising_answers(self):
        for number in [2, 7, 991, 999983]:
            found = [answer_by(number, count) for count in range(20)]
            for before, after in zip(found, found[1:]):
                self.assertLess(before[0], after[0])
                self.assertLess(before[1], after[1])
                self.assertEqual(after[0] ** 2, 1 + number * after[1] ** 2)


class CountOf(unittest.TestCase):
    def test_each_answer_has_its_own_number(self):
        for number in [2, 3, 5, 7, 61, 999999]:
            for count in range(101):
                found = count_of(number, answer_by(number, count))
                self.assertEqual(found, count)
                self.assertIs(type(found), int)
        for number in SMALL + GREAT:
            for count in [0, 1, 2, 3, 7, 8]:
                self.assertEqual(count_of(number, answer_by(number, count)), count)

    def test_answers_with_greater_numbers(self):
        for number in [2, 7, 13, 999999]:
            for count in [101, 127, 128, 129, 255, 256, 1000, 2049]:
                answer = multiplied(number, answer_by(number, 1), count)
                self.assertEqual(count_of(number, answer), count)

    def test_a_very_great_answer(self):
        answer, count = (3, 2), 1
        for _ in range(15):
            answer, count = together(2, answer, answer), 2 * count
        self.assertEqual(count_of(2, answer), count)
        self.assertEqual(count_of(2, together(2, answer, (3, 2))), count + 1)


class Together(unittest.TestCase):
    def test_as_the_document_says(self):
        for number in SMALL + GREAT:
            for one in [answer_by(number, count) for count in range(4)]:
                for other in [answer_by(number, count) for count in range(4)]:
                    (a, b), (c, d) = one, other
                    found = together(number, one, other)
                    self.assertEqual(found, (a * c + number * b * d, a * d + b * c))
                    self.assertIs(type(found), tuple)
                    self.assertEqual([type(part) for part in found], [int, int])

    def test_the_answer_of_both_numbers_together(self):
        for number in [2, 7, 61, 999999]:
            for one in range(0, 51, 7):
                for other in range(0, 51, 5):
                    found = together(number, answer_by(number, one), answer_by(number, other))
                    self.assertEqual(found, answer_by(number, one + other))

    def test_1_and_0_changes_nothing(self):
        for number in [2, 7, 999999]:
            answer = answer_by(number, 3)
            self.assertEqual(together(number, answer, (1, 0)), answer)
            self.assertEqual(together(number, (1, 0), answer), answer)
            self.assertEqual(together(number, (1, 0), (1, 0)), (1, 0))

    def test_answers_of_any_size(self):
        for number in [2, 7]:
            one = multiplied(number, answer_by(number, 1), 1500)
            other = multiplied(number, answer_by(number, 1), 700)
            self.assertEqual(count_of(number, together(number, one, other)), 2200)

    def test_of_a_square(self):
        for number in SQUARES:
            self.assertEqual(together(number, (1, 0), (1, 0)), (1, 0))


class Kept(unittest.TestCase):
    def test_what_is_told_is_new(self):
        self.assertIsNot(answer_by(7, 0), answer_by(7, 0))
        self.assertIsNot(answer_by(7, 1), answer_by(7, 1))
        nought, answer = (1, 0), (8, 3)
        self.assertIsNot(together(7, answer, nought), answer)
        self.assertIsNot(together(7, nought, answer), answer)

    def test_what_is_handed_in_is_not_changed(self):
        pair, wrong = (8, 3), [8, 3]
        count_of(7, pair)
        together(7, pair, pair)
        for ask in [lambda: count_of(7, wrong), lambda: together(7, wrong, pair), lambda: together(7, pair, wrong)]:
            self.assertRaises(ValueError, ask)
        self.assertEqual((pair, wrong), ((8, 3), [8, 3]))


if __name__ == "__main__":
    unittest.main()
