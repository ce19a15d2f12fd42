"""Point 1 and the interface: what is refused, and which refusal comes first."""

import unittest

from oneapart.apart import less, told
from oneapart.chains import chain
from oneapart.counting import answer_by, count_of, together
from oneapart.errors import ApartError, BadAnswer, BadCount, BadNumber, IsSquare
from tests.trying import SQUARES, Touchy, no_answers, no_counts, no_numbers


class Refusals(unittest.TestCase):
    def assert_refused(self, error, ask, *handed_in):
        """Just this error is raised, not one above or beside it."""
        try:
            ask(*handed_in)
        except ApartError as raised:
            self.assertIs(type(raised), error)
            return
        self.fail("nothing was refused")

    def test_no_number(self):
        for wrong in no_numbers():
            self.assert_refused(BadNumber, chain, wrong)
            self.assert_refused(BadNumber, told, wrong)
            self.assert_refused(BadNumber, less, wrong)
            self.assert_refused(BadNumber, answer_by, wrong, 1)
            self.assert_refused(BadNumber, count_of, wrong, (1, 0))
            self.assert_refused(BadNumber, together, wrong, (1, 0), (1, 0))

    def test_the_edges_are_numbers(self):
        for number in [2, 3, 999999]:
            chain(number)
            self.assertEqual(answer_by(number, 0), (1, 0))
            self.assertEqual(count_of(number, (1, 0)), 0)
        for number in [2, 1000000]:
            told(number)
            less(number)
            self.assertEqual(together(number, (1, 0), (1, 0)), (1, 0))

    def test_a_square(self):
        for number in SQUARES:
            self.assert_refused(IsSquare, chain, number)
            for count in [0, 1, 100]:
                self.assert_refused(IsSquare, answer_by, number, count)
            for answer in [(1, 0), (3, 2)]:
                self.assert_refused(IsSquare, count_of, number, answer)

    def test_no_count(self):
        for wrong in no_counts():
            self.assert_refused(BadCount, answer_by, 7, wrong)
            self.assert_refused(BadCount, answer_by, 999999, wrong)

    def test_the_edges_are_counts(self):
        self.assertEqual(answer_by(2, 0), (1, 0))
        self.assertEqual(count_of(2, answer_by(2, 100)), 100)

    def test_no_answer(self):
        for wrong in no_answers():
            self.assert_refused(BadAnswer, count_of, 7, wrong)
            self.assert_refused(BadAnswer, together, 7, wrong, (8, 3))
            self.assert_refused(BadAnswer, together, 7, (8, 3), wrong)
            self.assert_refused(BadAnswer, together, 7, wrong, wrong)

    def test_no_answer_of_a_great_number(self):
        for wrong in [(1000, -1), (-1000, 1), (1000, True), (999, 1), (1000, 2), (1, 1000), (True, 0), (1, False)]:
            self.assert_refused(BadAnswer, count_of, 999999, wrong)
            self.assert_refused(BadAnswer, together, 999999, wrong, (1, 0))
            self.assert_refused(BadAnswer, together, 999999, (1, 0), wrong)

    def test_an_answer_of_another_number(self):
        for number, answer in [(2, (8, 3)), (7, (3, 2)), (3, (1766319049, 226153980))]:
            self.assert_refused(BadAnswer, count_of, number, answer)
            self.assert_refused(BadAnswer, together, number, answer, (1, 0))
            self.assert_refused(BadAnswer, together, number, (1, 0), answer)

    def test_one_less_is_no_answer(self):
        for number, pair in [(2, (1, 1)), (5, (2, 1)), (13, (18, 5))]:
            self.assert_refused(BadAnswer, count_of, number, pair)
            self.assert_refused(BadAnswer, together, number, pair, pair)

    def test_no_answer_of_a_square(self):
        for number in SQUARES:
            for wrong in [(0, 0), (3, 2), (2, 1), (-1, 0), (True, 0), [1, 0], (1,), None, 1]:
                self.assert_refused(BadAnswer, together, number, wrong, (1, 0))
                self.assert_refused(BadAnswer, together, number, (1, 0), wrong)

    def test_the_number_is_refused_first(self):
        for number in [None, True, "7", [4], 1, 0, -4, 1000001, 1002001, 4.0, Touchy()]:
            for wrong in [None, True, -1, 101, "x", [1, 0], (0, 0), Touchy()]:
                self.assert_refused(BadNumber, answer_by, number, wrong)
                self.assert_refused(BadNumber, count_of, number, wrong)
                self.assert_refused(BadNumber, together, number, wrong, (1, 0))
                self.assert_refused(BadNumber, together, number, (1, 0), wrong)
                self.assert_refused(BadNumber, together, number, wrong, wrong)

    def test_a_square_is_refused_before_the_count_and_the_answer(self):
        for number in SQUARES:
            for wrong in [None, True, -1, 101, "x", [1, 0], (0, 0), (1, False), Touchy()]:
                self.assert_refused(IsSquare, answer_by, number, wrong)
                self.assert_refused(IsSquare, count_of, number, wrong)

    def test_a_refusal_is_a_value_error(self):
        for ask in [lambda: told(1), lambda: chain(4), lambda: answer_by(7, -1), lambda: count_of(7, (2, 1))]:
            self.assertRaises(ValueError, ask)


if __name__ == "__main__":
    unittest.main()
