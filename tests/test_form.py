"""The interface: names, arguments, bases and the files in which they are defined."""

import inspect
import unittest
from pathlib import Path

from oneapart import answers, apart, chains, counting, errors

FUNCTIONS = [
    (chains, "chain", ["number"]),
    (apart, "told", ["number"]),
    (apart, "less", ["number"]),
    (counting, "answer_by", ["number", "count"]),
    (counting, "count_of", ["number", "answer"]),
    (counting, "together", ["number", "one", "other"]),
]
FIELDS = [("Square", ["root"]), ("Least", ["one", "other"]), ("Other", ["one", "other"]), ("Barred", ["one", "other"])]


class Form(unittest.TestCase):
    def test_functions_stand_in_their_files_with_their_arguments(self):
        for module, name, arguments in FUNCTIONS:
            function = getattr(module, name)
            self.assertEqual(function.__module__, module.__name__)
            self.assertEqual(list(inspect.signature(function).parameters), arguments)

    def test_answers_stand_straight_under_answer_with_their_fields(self):
        self.assertEqual(answers.Answer.__bases__, (object,))
        for name, fields in FIELDS:
            found = getattr(answers, name)
            self.assertEqual(found.__module__, "oneapart.answers")
            self.assertEqual(found.__bases__, (answers.Answer,))
            self.assertEqual(list(inspect.signature(found).parameters), fields)
            made = found(*range(5, 5 + len(fields)))
            self.assertEqual(vars(made), dict(zip(fields, range(5, 5 + len(fields)))))

    def test_each_answer_defines_shows_itself(self):
        for name, _ in FIELDS:
            shows = vars(getattr(answers, name))["shows"]
            self.assertEqual(list(inspect.signature(shows).parameters), ["self", "number"])

    def test_a_bare_answer_shows_nothing(self):
        self.assertIs(answers.Answer().shows(7), False)

    def test_arguments_may_be_given_by_name(self):
        self.assertEqual(chains.chain(number=7), (2, [1, 1, 1, 4]))
        self.assertEqual(vars(apart.told(number=7)), {"one": 8, "other": 3})
        self.assertEqual(vars(apart.less(number=5)), {"one": 2, "other": 1})
        self.assertEqual(counting.answer_by(number=7, count=2), (127, 48))
        self.assertEqual(counting.count_of(number=7, answer=(127, 48)), 2)
        self.assertEqual(counting.together(number=7, one=(8, 3), other=(1, 0)), (8, 3))
        self.assertTrue(answers.Square(root=3).shows(number=9))
        self.assertTrue(answers.Least(one=8, other=3).shows(number=7))
        self.assertTrue(answers.Other(one=2, other=1).shows(number=5))
        self.assertTrue(answers.Barred(one=8, other=3).shows(number=7))

    def test_errors_stand_straight_under_apart_error(self):
        self.assertEqual(errors.ApartError.__bases__, (ValueError,))
        for name in ["BadNumber", "IsSquare", "BadAnswer", "BadCount"]:
            found = getattr(errors, name)
            self.assertEqual(found.__module__, "oneapart.errors")
            self.assertEqual(found.__bases__, (errors.ApartError,))

    def test_files_keep_to_their_size_and_characters(self):
        for path in Path(chains.__file__).parent.glob("*.py"):
            text = path.read_text(encoding="ascii")
            self.assertNotIn("\t", text)
            self.assertLess(len(text.splitlines()), 400)
            self.assertLessEqual(max(map(len, text.splitlines())), 120)


if __name__ == "__main__":
    unittest.main()
