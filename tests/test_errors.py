"""Interface, errors: the classes, what they stand under, and their fields."""

import unittest

from lazyhoist.errors import HoistError, NoPaper, NoProgram, NoText

REFUSALS = (NoText, NoProgram, NoPaper)


class Classes(unittest.TestCase):
    def test_hoist_error_is_a_value_error(self):
        self.assertTrue(issubclass(HoistError, ValueError))

    def test_each_refusal_is_a_hoist_error(self):
        for refusal in REFUSALS:
            with self.subTest(refusal=refusal):
                self.assertTrue(issubclass(refusal, HoistError))
                self.assertIsNot(refusal, HoistError)

    def test_no_refusal_stands_under_another(self):
        for one in REFUSALS:
            for other in REFUSALS:
                if one is not other:
                    with self.subTest(one=one, other=other):
                        self.assertFalse(issubclass(one, other))

    def test_hoist_error_stands_under_no_refusal(self):
        for refusal in REFUSALS:
            self.assertFalse(issubclass(HoistError, refusal))

    def test_raised_and_taken_by_each_name(self):
        made = ((NoText, (3,)), (NoProgram, ("row", 0)), (NoPaper, ("form", None, None)))
        for refusal, fields in made:
            for taken in (refusal, HoistError, ValueError):
                with self.subTest(refusal=refusal, taken=taken):
                    with self.assertRaises(taken):
                        raise refusal(*fields)


class Fields(unittest.TestCase):
    def test_no_text(self):
        for line in (0, 7, 19999):
            self.assertEqual(NoText(line).line, line)

    def test_no_program(self):
        for word, at in (("row", 0), ("apart", 3), ("endless", 59)):
            refusal = NoProgram(word, at)
            self.assertEqual((refusal.word, refusal.at), (word, at))

    def test_no_paper(self):
        cases = (
            ("form", None, None),
            ("unwanted", (2, 5), [5, 6, 7]),
            ("unwanted", (-1, 0), [0]),
            ("empty", 4, [0, 1, 4]),
        )
        for word, at, way in cases:
            refusal = NoPaper(word, at, way)
            self.assertEqual((refusal.word, refusal.at, refusal.way), (word, at, way))

    def test_fields_are_given_by_their_names(self):
        self.assertEqual(NoText(line=4).line, 4)
        program = NoProgram(at=2, word="apart")
        self.assertEqual((program.word, program.at), ("apart", 2))
        paper = NoPaper(way=[0, 1], at=1, word="empty")
        self.assertEqual((paper.word, paper.at, paper.way), ("empty", 1, [0, 1]))

    def test_each_object_has_its_own(self):
        one, other = NoProgram("row", 1), NoProgram("endless", 2)
        self.assertEqual((one.word, one.at), ("row", 1))
        self.assertEqual((other.word, other.at), ("endless", 2))


if __name__ == "__main__":
    unittest.main()
