"""Points 12 to 16 against their own words: by all ways of small programs, and row by row of larger ones."""

import itertools
import random
import unittest

from lazyhoist.firsts import firsts
from lazyhoist.programs import places, reckonings
from lazyhoist.stands import standing, unstanding
from lazyhoist.wants import unwanted, wanted
from tests.allways import (
    firsts_slowly, holds_standing, holds_wanted, is_unstanding_way, is_unwanted_way, standing_slowly, wanted_slowly)
from tests.samples import BOTH, END, RECKON, SAY, drawn_programs, is_program, shapes

# Rows that reckon x + y, reckon and change it, change it by a copy, and reckon another one or do neither.
KINDS = (RECKON, BOTH, ("copy", "y", 1), ("reckon", "z", "+", "y", "x"), SAY, END)


class Case(unittest.TestCase):
    def assert_told_as_ways_are(self, program):
        wanted_at, standing_at = wanted(program), standing(program)
        for told in (wanted_at, standing_at, firsts(program)):
            self.assertIs(type(told), dict)
            self.assertEqual(sorted(told), sorted(places(program)), program)
            self.assertEqual({type(bits) for bits in told.values()}, {int})
        for k in range(len(reckonings(program))):
            for place in places(program):
                self.assert_way(program, k, place, wanted_at, unwanted, is_unwanted_way)
                self.assert_way(program, k, place, standing_at, unstanding, is_unstanding_way)
        self.assertEqual(firsts(program), firsts_slowly(program, wanted_at, standing_at), program)

    def assert_way(self, program, k, place, told, ask, is_one):
        way = ask(program, k, place)
        if told[place] >> k & 1:
            self.assertIsNone(way, (program, k, place))
        else:
            self.assertIs(type(way), list, (program, k, place))
            self.assertTrue(is_one(program, k, place, way), (program, k, place, way))

    def assert_by_all_ways(self, program):
        self.assertEqual(wanted(program), wanted_slowly(program), program)
        self.assertEqual(standing(program), standing_slowly(program), program)
        self.assert_told_as_ways_are(program)

    def assert_row_by_row(self, program):
        self.assertTrue(holds_wanted(program, wanted(program)), program)
        self.assertTrue(holds_standing(program, standing(program)), program)
        self.assert_told_as_ways_are(program)


class Small(Case):
    def test_all_programs_of_up_to_three_rows(self):
        for size in range(1, 4):
            kinds = list(KINDS) + [("go", to) for to in range(size)] + [("part", "c", to) for to in range(size)]
            for rows in itertools.product(kinds, repeat=size):
                if is_program(list(rows)):
                    self.assert_by_all_ways(list(rows))

    def test_programs_of_four_to_six_rows(self):
        source = random.Random(12)
        asked = 0
        while asked < 500:
            size = source.randint(4, 6)
            kinds = list(KINDS) + [("go", source.randrange(size))] + [("part", "c", to) for to in range(size)]
            rows = [source.choice(kinds) for n in range(size)]
            if is_program(rows):
                asked += 1
                self.assert_by_all_ways(rows)


class Larger(Case):
    def test_shapes(self):
        for name, program in shapes():
            with self.subTest(name=name):
                self.assert_row_by_row(program)

    def test_drawn(self):
        for program in drawn_programs(random.Random(14), 250, 4, 14):
            self.assert_row_by_row(program)

    def test_drawn_of_two_names(self):
        for program in drawn_programs(random.Random(16), 100, 6, 20, ("a", "b")):
            self.assert_row_by_row(program)


class Beyond(unittest.TestCase):
    """More than sixty rows, as a program that was laid may have."""

    def test_a_straight_one(self):
        size = 1500
        program = [("say", 1)] * (size - 2) + [("reckon", "x", "+", "a", "b"), ("end",)]
        told = wanted(program)
        self.assertEqual(told[-1, 0], 1)
        self.assertEqual(told[size - 3, size - 2], 1)
        self.assertEqual(told[size - 2, size - 1], 0)
        self.assertEqual(unwanted(program, 0, (size - 2, size - 1)), [size - 1])
        self.assertEqual(unstanding(program, 0, (size - 3, size - 2)), list(range(size - 2)))
        self.assertEqual(standing(program)[size - 2, size - 1], 1)
        self.assertEqual([place for place, bits in firsts(program).items() if bits], [(-1, 0)])

    def test_one_that_leads_back(self):
        size = 1500
        program = [("reckon", "x", "+", "a", "b"), ("go", size - 1), ("end",)] + [("go", n - 1) for n in range(3, size)]
        self.assertEqual(wanted(program)[-1, 0], 1)
        self.assertEqual(unwanted(program, 0, (0, 1)), [1] + list(range(size - 1, 1, -1)))
        self.assertEqual(standing(program)[3, 2], 1)
        program = [("say", 1), ("go", size - 1), ("end",), ("reckon", "x", "+", "a", "b"), ("go", 2), ("go", 3)]
        program.extend([("go", n - 1) for n in range(6, size)])
        self.assertEqual(wanted(program)[0, 1], 1)
        self.assertEqual(unstanding(program, 0, (5, 3)), [0, 1] + list(range(size - 1, 4, -1)))
        self.assertEqual(standing(program)[4, 2], 1)


if __name__ == "__main__":
    unittest.main()
