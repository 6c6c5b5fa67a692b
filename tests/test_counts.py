"""Point 23, interface counts: counted and tally."""

import random
import unittest

from lazyhoist.counts import counted, tally
from lazyhoist.papers import paper, still
from lazyhoist.programs import check, places, reckonings
from lazyhoist.rows import reckoning_of
from tests.allpapers import all_papers, counted_slowly, drawn_paper
from tests.allways import ways_from
from tests.samples import BOTH, COPY, END, RECKON, SAY, drawn_programs, shapes

# A way that leads back to row 0, and rows that reckon x + y ahead of it and behind it.
RING = (SAY, RECKON, ("part", "c", 0), RECKON, END)


class Counted(unittest.TestCase):
    def assert_counted(self, kept, hows, way, told, program=RING, k=0):
        program = list(program)
        check(program)
        number = counted(program, k, (tuple(kept), tuple(hows)), way)
        self.assertEqual(number, told)
        self.assertIs(type(number), int)

    def test_rows_that_are_own_keep_and_read(self):
        way = [0, 1, 2, 3, 4]
        for first, first_count in (("own", 1), ("keep", 1), ("read", 0)):
            for second, second_count in (("own", 1), ("keep", 1), ("read", 0)):
                self.assert_counted([], [(1, first), (3, second)], way, first_count + second_count)

    def test_rows_done_several_times(self):
        way = [0, 1, 2, 0, 1, 2, 0, 1, 2, 3, 4]
        self.assert_counted([], [(1, "own"), (3, "own")], way, 4)
        self.assert_counted([], [(1, "keep"), (3, "read")], way, 3)
        self.assert_counted([], [(1, "read"), (3, "keep")], way, 1)
        self.assert_counted([], [(1, "read"), (3, "read")], way, 0)

    def test_kept_places_gone_through(self):
        hows = [(1, "read"), (3, "read")]
        way = [0, 1, 2, 0, 1, 2, 3, 4]
        for kept, told in (
            ([(-1, 0)], 1), ([(0, 1)], 2), ([(1, 2)], 2), ([(2, 3)], 1), ([(2, 0)], 1), ([(3, 4)], 1),
            ([(-1, 0), (0, 1)], 3), ([(-1, 0), (2, 0)], 2), (places(list(RING)), 8), ([], 0),
        ):
            self.assert_counted(kept, hows, way, told)

    def test_both(self):
        self.assert_counted([(-1, 0), (2, 0)], [(1, "own"), (3, "keep")], [0, 1, 2, 0, 1, 2, 3, 4], 5)
        self.assert_counted([(0, 1)], [(1, "keep"), (3, "read")], [0, 1, 2, 0, 1, 2, 3, 4], 4)

    def test_a_beginning(self):
        hows = [(1, "own"), (3, "own")]
        self.assert_counted([(-1, 0)], hows, [0], 1)
        self.assert_counted([], hows, [0], 0)
        self.assert_counted([(-1, 0), (0, 1)], hows, [0, 1], 3)
        # The place behind its last row is not gone through.
        self.assert_counted([(1, 2)], hows, [0, 1], 1)
        self.assert_counted([(2, 0)], hows, [0, 1, 2, 0], 2)

    def test_a_way_from_another_row(self):
        hows = [(1, "own"), (3, "read")]
        self.assert_counted([(0, 1)], hows, [1, 2, 3], 1)
        self.assert_counted([(-1, 0), (0, 1)], hows, [1, 2, 0, 1], 3)
        self.assert_counted([(-1, 0)], hows, [2, 0, 1, 2], 1)
        self.assert_counted([(2, 0)], hows, [2, 0, 1, 2], 2)
        self.assert_counted([(2, 3)], hows, [3, 4], 0)

    def test_a_way_of_one_row(self):
        hows = [(1, "own"), (3, "read")]
        every = places(list(RING))
        for way, told in (([0], 1), ([1], 1), ([2], 0), ([3], 0), ([4], 0)):
            self.assert_counted(every, hows, way, told)

    def test_row_0_reckons_itself(self):
        program = (RECKON, ("part", "c", 0), END)
        self.assert_counted([(-1, 0)], [(0, "own")], [0], 2, program)
        self.assert_counted([(-1, 0)], [(0, "read")], [0, 1, 0, 1, 2], 1, program)
        self.assert_counted([(1, 0)], [(0, "own")], [0, 1, 0, 1, 2], 3, program)

    def test_a_part_to_its_own_row(self):
        program = (("part", "c", 0), RECKON, END)
        self.assert_counted([(0, 0)], [(1, "own")], [0, 0, 0, 0, 1, 2], 4, program)
        self.assert_counted([(-1, 0)], [(1, "own")], [0, 0, 0, 0, 1, 2], 2, program)

    def test_of_the_reckoning_that_was_asked_about(self):
        program = (RECKON, ("reckon", "z", "+", "y", "x"), BOTH, END)
        self.assert_counted([], [(0, "own"), (2, "own")], [0, 1, 2, 3], 2, program, 0)
        self.assert_counted([(0, 1)], [(1, "own")], [0, 1, 2, 3], 2, program, 1)

    def test_a_long_way(self):
        way = [0, 1, 2] * 3333 + [3]
        self.assert_counted([(0, 1)], [(1, "read"), (3, "own")], way, 3334)

    def test_the_still_paper_tells_what_the_rows_reckon(self):
        source = random.Random(23)
        for name, program in shapes() + [("drawn", drawn) for drawn in drawn_programs(source, 50, 3, 12)]:
            for start in range(min(len(program), 4)):
                for way in ways_from(program, start, 7):
                    told = [counted(program, k, still(program, k), way) for k in range(len(reckonings(program)))]
                    self.assertEqual(told, tally(program, way), (name, way))

    def test_by_the_points_own_words(self):
        source = random.Random(24)
        program = list(RING)
        ways = [way for n in range(5) for way in ways_from(program, n, 7)]
        for asked in all_papers(program, 0):
            for way in source.sample(ways, 5):
                self.assertEqual(counted(program, 0, asked, way), counted_slowly(asked, way), (asked, way))
        for program in drawn_programs(source, 100, 3, 12):
            for k in range(len(reckonings(program))):
                for asked in (drawn_paper(source, program, k), paper(program, k)):
                    for way in ways_from(program, source.randrange(len(program)), 6):
                        self.assertEqual(counted(program, k, asked, way), counted_slowly(asked, way), (program, asked))


class Tally(unittest.TestCase):
    def test_one_number_for_each_reckoning(self):
        program = [
            ("reckon", "z", "-", "x", "y"), ("reckon", "z", "-", "y", "x"), ("reckon", "x", "+", "x", "y"),
            ("reckon", "z", "-", "x", "y"), ("part", "c", 2), END,
        ]
        self.assertEqual(tally(program, [0, 1, 2, 3, 4, 5]), [2, 1, 1])
        self.assertEqual(tally(program, [0, 1, 2, 3, 4, 2, 3, 4, 2, 3, 4, 5]), [4, 1, 3])
        self.assertEqual(tally(program, [0]), [1, 0, 0])
        self.assertEqual(tally(program, [2]), [0, 0, 1])
        self.assertEqual(tally(program, [4, 2]), [0, 0, 1])
        self.assertEqual(tally(program, [5]), [0, 0, 0])

    def test_without_reckonings(self):
        self.assertEqual(tally([END], [0]), [])
        self.assertEqual(tally([COPY, ("part", "x", 0), END], [0, 1, 0, 1, 2]), [])

    def test_a_dozen_reckonings_and_more(self):
        program = [("reckon", "z", "+", "x", n) for n in range(14)] + [("part", "c", 5), END]
        self.assertEqual(tally(program, list(range(15)) + list(range(5, 16))), [1] * 5 + [2] * 9)

    def test_lists(self):
        for name, program in shapes():
            for way in ways_from(program, 0, 6):
                told = tally(program, way)
                self.assertIs(type(told), list)
                for number, reckoning in zip(told, reckonings(program), strict=True):
                    self.assertIs(type(number), int)
                    self.assertEqual(number, [reckoning_of(program[n]) for n in way].count(reckoning), name)


if __name__ == "__main__":
    unittest.main()
