"""Point 9, interface ways: is_way, is_whole, way_to, way_on."""

import itertools
import random
import unittest

from lazyhoist.programs import followers
from lazyhoist.ways import is_way, is_whole, way_on, way_to
from tests.samples import EACH_KIND, drawn_programs, shapes

PROGRAM = list(EACH_KIND)
ONE_ROW = [("end",)]
TO_THE_BEGIN = [("part", "a", 3), ("say", "a"), ("go", 0), ("part", 1, 0), ("part", "b", 4), ("end",)]
TWO_ENDS = [("part", "a", 2), ("end",), ("say", "a"), ("end",)]


class IsWay(unittest.TestCase):
    def assert_ways(self, program, ways, told):
        for way in ways:
            self.assertIs(is_way(program, way), told, way)

    def test_without_numbers(self):
        self.assert_ways(PROGRAM, [[]], False)
        self.assert_ways(ONE_ROW, [[]], False)

    def test_one_number(self):
        self.assert_ways(PROGRAM, [[n] for n in range(9)], True)
        self.assert_ways(PROGRAM, [[n] for n in (-1, -9, -10, 9, 10, 60, 10 ** 30, -(10 ** 30))], False)
        self.assert_ways(ONE_ROW, [[0]], True)
        self.assert_ways(ONE_ROW, [[-1], [1]], False)

    def test_followers(self):
        pairs = ([0, 1], [1, 2], [1, 4], [2, 3], [3, 5], [4, 5], [5, 6], [6, 7], [7, 8], [7, 1])
        self.assert_ways(PROGRAM, pairs, True)
        self.assert_ways(PROGRAM, ([0, 1, 2, 3, 5, 6, 7, 8], [0, 1, 4, 5, 6, 7, 1, 2, 3, 5], [6, 7, 1, 4]), True)

    def test_rows_that_are_no_followers(self):
        pairs = ([0, 0], [0, 2], [1, 3], [1, 0], [3, 4], [2, 4], [7, 2], [1, 1], [5, 4], [4, 3])
        self.assert_ways(PROGRAM, pairs, False)
        self.assert_ways(PROGRAM, ([0, 1, 2, 3, 4], [0, 2, 3], [0, 1, 3, 5], [0, 1, 4, 5, 6, 7, 8, 0]), False)

    def test_a_part_has_two(self):
        self.assert_ways(TWO_ENDS, ([0, 1], [0, 2], [0, 2, 3]), True)
        self.assert_ways(TWO_ENDS, ([0, 3], [0, 0], [0, 1, 2]), False)

    def test_behind_an_end(self):
        self.assert_ways(PROGRAM, ([8, 0], [8, 8], [8, 9], [7, 8, 0], [7, 8, 9], [8, -1]), False)
        self.assert_ways(ONE_ROW, ([0, 0], [0, 1], [0, -1]), False)
        self.assert_ways(TWO_ENDS, ([1, 2], [0, 1, 2, 3], [0, 2, 3, 0]), False)

    def test_numbers_that_are_no_rows(self):
        for wrong in (-1, -2, -8, -9, -10, 9, 10, 60, 10 ** 30):
            self.assert_ways(PROGRAM, ([wrong, 0], [wrong, 1], [wrong, 8], [0, wrong], [7, wrong], [8, wrong]), False)
            self.assert_ways(PROGRAM, ([0, wrong, 2], [0, 1, 2, wrong, 5], [0, 1, 2, wrong], [wrong, wrong]), False)

    def test_a_number_from_behind_is_no_row(self):
        # -9 stands for row 0 and -8 for row 1 where a list is asked from its end.
        self.assert_ways(PROGRAM, ([-9, 1], [-9, -8], [0, -8], [-1], [7, -1]), False)

    def test_rows_that_come_several_times(self):
        self.assert_ways(TO_THE_BEGIN, ([4, 4, 4, 4, 5], [0, 3, 0, 3, 0, 1, 2, 0, 3, 4, 4, 5], [3, 0, 3, 0]), True)
        self.assert_ways(TO_THE_BEGIN, ([0, 0], [5, 5], [3, 3], [4, 4, 5, 5], [2, 0, 2]), False)
        self.assert_ways(TO_THE_BEGIN, ([0, 3] * 5000, [4] * 20000), True)

    def test_all_lists_of_up_to_four_numbers(self):
        for program in (ONE_ROW, TWO_ENDS, [("part", "a", 0), ("go", 2), ("end",)]):
            for size in range(5):
                for way in itertools.product(range(-2, len(program) + 1), repeat=size):
                    self.compare(program, list(way))

    def compare(self, program, way):
        told = len(way) > 0 and all(n in range(len(program)) for n in way)
        told = told and all(m in followers(program, n) for n, m in zip(way, way[1:]))
        self.assertIs(is_way(program, way), told, way)
        whole = told and way[0] == 0 and program[way[-1]] == ("end",)
        self.assertIs(is_whole(program, way), whole, way)


class IsWhole(unittest.TestCase):
    def assert_whole(self, program, ways, told):
        for way in ways:
            self.assertIs(is_whole(program, way), told, way)

    def test_whole_ways(self):
        self.assert_whole(ONE_ROW, [[0]], True)
        self.assert_whole(TWO_ENDS, ([0, 1], [0, 2, 3]), True)
        self.assert_whole(PROGRAM, ([0, 1, 2, 3, 5, 6, 7, 8], [0, 1, 4, 5, 6, 7, 1, 2, 3, 5, 6, 7, 8]), True)
        self.assert_whole(TO_THE_BEGIN, ([0, 3, 4, 5], [0, 1, 2, 0, 3, 4, 4, 4, 5]), True)

    def test_without_numbers(self):
        self.assert_whole(PROGRAM, [[]], False)
        self.assert_whole(ONE_ROW, [[]], False)

    def test_a_beginning_that_is_not_whole(self):
        self.assert_whole(PROGRAM, ([0], [0, 1], [0, 1, 2, 3, 5, 6, 7], [0, 1, 2, 3, 5, 6, 7, 1]), False)
        self.assert_whole(TWO_ENDS, ([0], [0, 2]), False)

    def test_a_way_from_another_row(self):
        self.assert_whole(PROGRAM, ([8], [7, 8], [1, 2, 3, 5, 6, 7, 8]), False)
        self.assert_whole(TWO_ENDS, ([1], [3], [2, 3]), False)

    def test_no_way_at_all(self):
        none = ([0, 8], [0, 1, 8], [0, 1, 2, 3, 4, 5, 6, 7, 8], [-9, 1, 4, 5, 6, 7, 8], [0, 1, 9])
        self.assert_whole(PROGRAM, none, False)
        self.assert_whole(TWO_ENDS, ([0, 3], [0, 1, 1], [0, -3], [0, 2, -1], [0, 1, 2, 3], [9], [-4, 1]), False)


class ToAndOn(unittest.TestCase):
    def assert_all(self, program):
        for n in range(len(program)):
            there = way_to(program, n)
            self.assertIs(type(there), list)
            self.assertIs(is_way(program, there), True, there)
            self.assertEqual((there[0], there[-1]), (0, n))
            self.assertLessEqual(len(there), len(program))
            on = way_on(program, n)
            self.assertIs(type(on), list)
            self.assertIs(is_way(program, on), True, on)
            self.assertEqual((on[0], program[on[-1]]), (n, ("end",)))
            self.assertLessEqual(len(on), len(program))
            self.assertIs(is_whole(program, there + on[1:]), True)

    def test_shapes(self):
        for name, program in shapes() + [("to the begin", TO_THE_BEGIN), ("two ends", TWO_ENDS)]:
            with self.subTest(name=name):
                self.assert_all(program)

    def test_drawn(self):
        for program in drawn_programs(random.Random(9), 400, 1, 12):
            self.assert_all(program)

    def test_where_there_is_one_alone(self):
        self.assertEqual(way_to(ONE_ROW, 0), [0])
        self.assertEqual(way_on(ONE_ROW, 0), [0])
        self.assertEqual(way_to(TWO_ENDS, 3), [0, 2, 3])
        self.assertEqual(way_to(TWO_ENDS, 1), [0, 1])
        self.assertEqual(way_on(TWO_ENDS, 2), [2, 3])
        program = [("go", 3), ("end",), ("go", 1), ("go", 2)]
        self.assertEqual([way_to(program, n) for n in range(4)], [[0], [0, 3, 2, 1], [0, 3, 2], [0, 3]])
        self.assertEqual([way_on(program, n) for n in range(4)], [[0, 3, 2, 1], [1], [2, 1], [3, 2, 1]])

    def test_an_end(self):
        self.assertEqual(way_on(PROGRAM, 8), [8])
        self.assertEqual(way_on(TWO_ENDS, 1), [1])
        self.assertEqual(way_on(TWO_ENDS, 3), [3])

    def test_long_programs(self):
        for size in (60, 61, 2000):
            straight = [("say", n) for n in range(size - 1)] + [("end",)]
            self.assertEqual(way_to(straight, size - 1), list(range(size)))
            self.assertEqual(way_on(straight, 0), list(range(size)))
            back = [("go", size - 1), ("end",)] + [("go", n - 1) for n in range(2, size)]
            self.assertEqual(way_to(back, 1), [0] + list(range(size - 1, 0, -1)))
            self.assertEqual(way_on(back, size - 1), list(range(size - 1, 0, -1)))


if __name__ == "__main__":
    unittest.main()
