"""Points 2 and 5: what is told of a number."""

import unittest
from math import isqrt

from oneapart.answers import Barred, Least, Other, Square
from oneapart.apart import less, told
from oneapart.chains import chain
from tests.trying import (
    BESIDE, GREAT, KNOWN_BARRED, KNOWN_LEAST, KNOWN_OTHER, OTHERS, SMALL, SQUARES, is_barred_by, tried_pairs)


class Told(unittest.TestCase):
    def test_squares(self):
        for number in SQUARES:
            found = told(number)
            self.assertIs(type(found), Square)
            self.assertEqual(vars(found), {"root": isqrt(number)})
            self.assertIs(type(found.root), int)

    def test_known_least_answers(self):
        for number, (one, other) in KNOWN_LEAST.items():
            found = told(number)
            self.assertIs(type(found), Least)
            self.assertEqual(vars(found), {"one": one, "other": other})

    def test_the_edges(self):
        self.assertEqual(vars(told(2)), {"one": 3, "other": 2})
        self.assertEqual(vars(told(1000000)), {"root": 1000})

    def test_none_lesser_is_missed(self):
        for number in SMALL:
            found = told(number)
            self.assertIs(type(found), Least)
            most = min(found.other, 20000)
            expected = [(1, 0)] + ([(found.one, found.other)] if found.other == most else [])
            self.assertEqual(tried_pairs(number, 1, most), expected)

    def test_each_is_an_answer_above_1_and_0(self):
        for number in OTHERS:
            found = told(number)
            self.assertIs(type(found), Least)
            self.assertIs(type(found.one), int)
            self.assertIs(type(found.other), int)
            self.assertEqual(found.one ** 2, 1 + number * found.other ** 2)
            self.assertGreater(found.one, 1)
            self.assertGreater(found.other, 0)

    def test_great_ones_are_the_least_that_the_chain_gives(self):
        for number in GREAT + BESIDE:
            first, parts = chain(number)
            one_before, other_before, one, other = 1, 0, first, 1
            for part in parts * 2:
                if one * one == 1 + number * other * other:
                    break
                one_before, one = one, part * one + one_before
                other_before, other = other, part * other + other_before
            self.assertEqual(vars(told(number)), {"one": one, "other": other})

    def test_what_is_told_is_new_and_may_be_changed(self):
        for ask in [told, less]:
            for number in [7, 5]:
                found = ask(number)
                kept = dict(vars(found))
                found.one = 0
                found.other = None
                self.assertIsNot(ask(number), found)
                self.assertEqual(vars(ask(number)), kept)
            found = ask(9)
            found.root = 4
            self.assertEqual(vars(ask(9)), {"root": 3})


class Less(unittest.TestCase):
    def test_squares(self):
        for number in SQUARES:
            found = less(number)
            self.assertIs(type(found), Square)
            self.assertEqual(vars(found), {"root": isqrt(number)})
            self.assertIs(type(found.root), int)

    def test_known_pairs(self):
        for number, (one, other) in KNOWN_OTHER.items():
            found = less(number)
            self.assertIs(type(found), Other)
            self.assertEqual(vars(found), {"one": one, "other": other})

    def test_known_barred(self):
        for number in KNOWN_BARRED:
            found = less(number)
            self.assertIs(type(found), Barred)
            self.assertEqual(vars(found), vars(told(number)))

    def test_the_edges(self):
        self.assertIs(type(less(2)), Other)
        self.assertEqual(vars(less(2)), {"one": 1, "other": 1})
        self.assertIs(type(less(1000000)), Square)
        self.assertEqual(vars(less(1000000)), {"root": 1000})

    def test_none_lesser_is_missed_and_none_where_barred(self):
        for number in SMALL:
            found = less(number)
            if type(found) is Other:
                most = min(found.other, 20000)
                expected = [(found.one, found.other)] if found.other == most else []
            else:
                self.assertIs(type(found), Barred)
                most = 20000
                expected = []
            self.assertEqual(tried_pairs(number, -1, most), expected)

    def test_each_is_as_the_document_says(self):
        for number in OTHERS:
            found = less(number)
            self.assertIs(type(found.one), int)
            self.assertIs(type(found.other), int)
            least = told(number)
            if type(found) is Other:
                self.assertEqual(found.one ** 2, number * found.other ** 2 - 1)
                self.assertGreater(found.one, 0)
                self.assertGreater(found.other, 0)
                self.assertEqual(least.one, 2 * found.one ** 2 + 1)
                self.assertEqual(least.other, 2 * found.one * found.other)
            else:
                self.assertIs(type(found), Barred)
                self.assertEqual(vars(found), vars(least))

    def test_barred_just_where_the_least_answer_is_so(self):
        for number in SMALL:
            least = told(number)
            if least.one < 10 ** 9:
                barred = is_barred_by(number, (least.one, least.other))
                self.assertIs(type(less(number)), Barred if barred else Other)


if __name__ == "__main__":
    unittest.main()
