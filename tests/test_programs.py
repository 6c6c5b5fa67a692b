"""Points 5 and 7, interface programs: followers, leading, places, reckonings."""

import unittest

from lazyhoist.programs import check, followers, leading, places, reckonings
from tests.samples import EACH_KIND

PROGRAM = list(EACH_KIND)
PLACES = [(-1, 0), (0, 1), (1, 2), (1, 4), (2, 3), (3, 5), (4, 5), (5, 6), (6, 7), (7, 8), (7, 1)]
ONE_ROW = [("end",)]
TO_THE_BEGIN = [("part", "a", 3), ("say", "a"), ("go", 0), ("part", 1, 0), ("part", "b", 4), ("end",)]


class Followers(unittest.TestCase):
    def test_each_kind_of_row(self):
        told = [[1], [2, 4], [3], [5], [5], [6], [7], [8, 1], []]
        for n, numbers in enumerate(told):
            self.assertEqual(followers(PROGRAM, n), numbers, n)

    def test_a_part_back_and_to_itself(self):
        self.assertEqual([followers(TO_THE_BEGIN, n) for n in range(6)], [[1, 3], [2], [0], [4, 0], [5, 4], []])

    def test_a_go_to_the_next_row_and_a_go_at_the_end(self):
        program = [("go", 1), ("part", "a", 3), ("end",), ("go", 2)]
        check(program)
        self.assertEqual([followers(program, n) for n in range(4)], [[1], [2, 3], [], [2]])

    def test_one_row(self):
        self.assertEqual(followers(ONE_ROW, 0), [])

    def test_a_part_on_a_worth_has_both(self):
        for worth in (0, 1):
            program = [("part", worth, 2), ("end",), ("end",)]
            self.assertEqual(followers(program, 0), [1, 2])


class Places(unittest.TestCase):
    def test_in_order(self):
        self.assertEqual(places(PROGRAM), PLACES)
        self.assertEqual(
            places(TO_THE_BEGIN), [(-1, 0), (0, 1), (0, 3), (1, 2), (2, 0), (3, 4), (3, 0), (4, 5), (4, 4)])

    def test_one_row(self):
        self.assertEqual(places(ONE_ROW), [(-1, 0)])

    def test_each_once(self):
        self.assertEqual(len(set(places(PROGRAM))), len(PLACES))

    def test_of_more_than_sixty_rows(self):
        program = [("say", n) for n in range(200)] + [("end",)]
        self.assertEqual(places(program), [(n, n + 1) for n in range(-1, 200)])
        self.assertEqual(leading(program, 200), [(199, 200)])
        self.assertEqual(followers(program, 199), [200])


class Leading(unittest.TestCase):
    def test_row_0(self):
        self.assertEqual(leading(PROGRAM, 0), [(-1, 0)])
        self.assertEqual(leading(ONE_ROW, 0), [(-1, 0)])
        self.assertEqual(leading(TO_THE_BEGIN, 0), [(-1, 0), (2, 0), (3, 0)])

    def test_several(self):
        self.assertEqual(leading(PROGRAM, 1), [(0, 1), (7, 1)])
        self.assertEqual(leading(PROGRAM, 5), [(3, 5), (4, 5)])
        self.assertEqual(leading(TO_THE_BEGIN, 4), [(3, 4), (4, 4)])

    def test_one(self):
        self.assertEqual(leading(PROGRAM, 4), [(1, 4)])
        self.assertEqual(leading(PROGRAM, 8), [(7, 8)])
        self.assertEqual(leading(TO_THE_BEGIN, 3), [(0, 3)])

    def test_all_together_are_the_places(self):
        for program in (PROGRAM, TO_THE_BEGIN, ONE_ROW):
            for m in range(len(program)):
                self.assertEqual(leading(program, m), [place for place in places(program) if place[1] == m])


class Reckonings(unittest.TestCase):
    def test_in_the_order_of_the_first_row(self):
        self.assertEqual(reckonings(PROGRAM), [("+", "a", "b"), ("+", "b", "a"), ("-", "n", 1)])

    def test_each_once(self):
        program = [
            ("reckon", "z", "*", "y", "y"), ("reckon", "x", "+", "a", "b"), ("reckon", "y", "*", "y", "y"),
            ("reckon", "b", "+", "a", "b"), ("reckon", "q", "&", 1, 2), ("reckon", "x", "+", "a", "b"),
            ("reckon", "q", "*", "y", "y"), ("reckon", "a", "&", 1, 2), ("end",),
        ]
        self.assertEqual(reckonings(program), [("*", "y", "y"), ("+", "a", "b"), ("&", 1, 2)])

    def test_order_of_operands_and_signs_part_them(self):
        pairs = (("b", "a"), ("a", "b"), ("a", "a"), ("a", 1), (1, "a"), (1, 0))
        told = [(s, a, b) for s in "=<^|&*-+" for a, b in pairs]
        program = [("reckon", "x",) + reckoning for reckoning in told + told] + [("end",)]
        self.assertEqual(reckonings(program), told)

    def test_other_rows_have_none(self):
        self.assertEqual(reckonings(ONE_ROW), [])
        self.assertEqual(reckonings(TO_THE_BEGIN), [])
        self.assertEqual(reckonings([("copy", "x", "a"), ("say", "x"), ("go", 3), ("end",)]), [])

    def test_each_is_a_tuple(self):
        for reckoning in reckonings(PROGRAM):
            self.assertIsInstance(reckoning, tuple)


if __name__ == "__main__":
    unittest.main()
