"""Points 25 and 26, interface less: less_often."""

import itertools
import random
import unittest

from lazyhoist.less import less_often
from lazyhoist.papers import paper, still
from lazyhoist.programs import places, reckonings
from lazyhoist.ways import is_whole
from tests.allpapers import (
    all_papers, counted_slowly, drawn_paper, least_difference, paper_by_words, shows_never, whole_ways)
from tests.samples import BOTH, COPY, END, RECKON, SAY, drawn_programs, shapes


class Case(unittest.TestCase):
    def told(self, program, one, other, k=0):
        """The word that is told, where what stands behind it shows it."""
        told = less_often(program, k, one, other)
        self.assertEqual((type(told), len(told), type(told[1])), (tuple, 2, list))
        word, numbers = told
        self.assertEqual({type(number) for number in numbers}, {int}, (program, one, other))
        if word == "way":
            self.assertTrue(is_whole(program, numbers), (program, one, other, numbers))
            self.assertLessEqual(len(numbers), 20000)
            self.assertLess(counted_slowly(one, numbers), counted_slowly(other, numbers), (program, one, other))
        else:
            self.assertEqual(word, "never")
            self.assertTrue(shows_never(program, one, other, numbers), (program, one, other, numbers))
        return word

    def assert_both_ways_round(self, program, one, other, told, k=0):
        """Told of the one and the other, and of the other and the one."""
        self.assertEqual((self.told(program, one, other, k), self.told(program, other, one, k)), told)


class Never(Case):
    def test_a_paper_and_itself(self):
        for name, program in shapes():
            for k in range(len(reckonings(program))):
                for asked in (still(program, k), paper(program, k), paper(program, k, places(program))):
                    self.assertEqual(self.told(program, asked, asked, k), "never", name)

    def test_papers_that_reckon_as_often(self):
        program = [SAY, SAY, RECKON, END]
        for kept in ([(-1, 0)], [(0, 1)], [(1, 2)], [(2, 3)]):
            moved = paper_by_words(program, kept, "read")
            self.assert_both_ways_round(program, moved, still(program, 0), ("never", "never"))
        self.assert_both_ways_round(program, ((), ((2, "keep"),)), still(program, 0), ("never", "never"))

    def test_as_often_though_elsewhere_on_each_way(self):
        program = [SAY, ("part", "c", 4), RECKON, END, RECKON, END]
        one = paper_by_words(program, [(0, 1)], "read read")
        for other in ("own own", "keep own"):
            self.assert_both_ways_round(program, one, paper_by_words(program, [], other), ("never", "never"))
        sides = paper_by_words(program, [(1, 2)], "read keep")
        self.assert_both_ways_round(program, one, sides, ("never", "never"))

    def test_the_last_paper_and_others_that_are_let_by(self):
        program = [("part", "c", 3), RECKON, ("go", 4), COPY, RECKON, END]
        last, first = paper(program, 0), paper(program, 0, places(program))
        self.assert_both_ways_round(program, still(program, 0), last, ("never", "way"))
        self.assert_both_ways_round(program, first, last, ("never", "never"))

    def test_numbers_of_more_than_one(self):
        program = [SAY] * 10 + [RECKON, END]
        one = paper_by_words(program, places(program), "own")
        self.assert_both_ways_round(program, one, paper_by_words(program, [], "read"), ("never", "way"))


class Way(Case):
    def test_straight(self):
        program = [RECKON, SAY, RECKON, END]
        last = paper(program, 0)
        self.assertEqual(less_often(program, 0, last, still(program, 0)), ("way", [0, 1, 2, 3]))
        self.assertEqual(self.told(program, still(program, 0), last), "never")

    def test_on_one_of_two_ways(self):
        program = [RECKON, ("part", "c", 4), RECKON, END, SAY, END]
        last = paper(program, 0)
        self.assertEqual(less_often(program, 0, last, still(program, 0)), ("way", [0, 1, 2, 3]))
        program = [RECKON, ("part", "c", 3), END, SAY, RECKON, END]
        last = paper(program, 0)
        self.assertEqual(less_often(program, 0, last, still(program, 0)), ("way", [0, 1, 3, 4, 5]))

    def test_each_less_often_than_the_other_on_a_way_of_its_own(self):
        program = [("part", "c", 3), RECKON, END, RECKON, END]
        one, other = paper_by_words(program, [], "own read"), paper_by_words(program, [], "read own")
        self.assertEqual(less_often(program, 0, one, other), ("way", [0, 3, 4]))
        self.assertEqual(less_often(program, 0, other, one), ("way", [0, 1, 2]))

    def test_ahead_of_the_run(self):
        program = [SAY, RECKON, END]
        kept, none = paper_by_words(program, [(-1, 0)], "own"), paper_by_words(program, [], "own")
        self.assertEqual(less_often(program, 0, none, kept), ("way", [0, 1, 2]))
        self.assertEqual(self.told(program, kept, none), "never")
        # What is kept ahead of the run is reckoned once, though the way leads back to row 0.
        program = [SAY, ("part", "c", 0), RECKON, END]
        ahead, back = paper_by_words(program, [(-1, 0)], "read"), paper_by_words(program, [(1, 0)], "read")
        self.assert_both_ways_round(program, ahead, back, ("way", "way"))
        self.assert_both_ways_round(program, ahead, paper_by_words(program, [(0, 1)], "read"), ("way", "never"))

    def test_a_place_at_the_end(self):
        program = [RECKON, ("part", "c", 3), END, END]
        one, other = paper_by_words(program, [(1, 2)], "own"), paper_by_words(program, [(1, 3)], "own")
        self.assertEqual(less_often(program, 0, one, other), ("way", [0, 1, 3]))
        self.assertEqual(less_often(program, 0, other, one), ("way", [0, 1, 2]))

    def test_papers_that_are_not_let_by(self):
        program = [SAY, RECKON, SAY, END]
        for one, other, told in (
            (([], "read"), ([], "own"), ("way", "never")),
            (([], "read"), ([], "read"), ("never", "never")),
            (([(1, 2), (2, 3)], "read"), ([], "own"), ("never", "way")),
            (([(2, 3)], "read"), ([(0, 1)], "read"), ("never", "never")),
        ):
            self.assert_both_ways_round(program, paper_by_words(program, *one), paper_by_words(program, *other), told)


class Rings(Case):
    def test_less_often_each_time_round(self):
        program = [SAY, RECKON, ("part", "c", 0), END]
        last = paper(program, 0)
        self.assert_both_ways_round(program, last, still(program, 0), ("way", "never"))

    def test_less_often_from_the_second_time_on(self):
        # On the way that goes by row 1 once both reckon once.
        program = [SAY, RECKON, ("part", "c", 1), END]
        word, way = less_often(program, 0, paper_by_words(program, [(-1, 0)], "read"), still(program, 0))
        self.assertEqual(word, "way")
        self.assertGreaterEqual(way.count(1), 2)

    def test_a_ring_on_which_the_difference_is_0(self):
        program = [SAY, RECKON, ("part", "c", 0), END]
        one, other = paper_by_words(program, [(0, 1)], "read"), still(program, 0)
        self.assert_both_ways_round(program, one, other, ("never", "never"))
        ahead = paper_by_words(program, [(-1, 0), (0, 1)], "read")
        self.assert_both_ways_round(program, ahead, other, ("never", "way"))

    def test_below_and_above_0_on_the_same_ring(self):
        program = [RECKON, SAY, RECKON, RECKON, ("part", "c", 0), END]
        one, other = paper_by_words(program, [(0, 1)], "own read read"), paper_by_words(program, [], "read own own")
        self.assert_both_ways_round(program, one, other, ("never", "never"))
        one = paper_by_words(program, [(1, 2)], "read read own")
        other = paper_by_words(program, [(3, 4)], "own own read")
        self.assert_both_ways_round(program, one, other, ("way", "never"))
        # Left amid, the same ring is above 0; so it must be gone round first.
        program = [RECKON, ("part", "d", 6), RECKON, RECKON, ("part", "c", 0), END, END]
        one = paper_by_words(program, [(0, 1)], "own read read")
        other = paper_by_words(program, [(4, 0)], "read own own")
        self.assert_both_ways_round(program, one, other, ("way", "way"))

    def test_gone_round_many_times(self):
        # As many places are kept ahead of the ring as it must be gone round to make up for.
        for ahead in (0, 1, 5, 30, 55):
            program = [SAY] * ahead + [SAY, RECKON, ("part", "c", ahead), END]
            one = paper_by_words(program, places(program)[:ahead + 1], "read")
            word, way = less_often(program, 0, one, still(program, 0))
            self.assertEqual(word, "way")
            self.assertGreaterEqual(way.count(ahead + 1), ahead + 2)
            self.assert_both_ways_round(program, one, still(program, 0), ("way", "way" if ahead > 0 else "never"))

    def test_kept_places_behind_the_ring(self):
        program = [SAY, RECKON, ("part", "c", 0)] + [SAY] * 56 + [END]
        one = paper_by_words(program, [(n, n + 1) for n in range(2, 59)], "read")
        self.assert_both_ways_round(program, one, still(program, 0), ("way", "way"))

    def test_sixty_rows_and_long_rings(self):
        for ahead, behind in itertools.product((0, 1, 14, 28), repeat=2):
            ring = 60 - ahead - behind - 1
            program = [SAY] * ahead + [RECKON] + [SAY] * (ring - 2) + [("part", "c", ahead)] + [SAY] * behind + [END]
            kept = [(n - 1, n) for n in range(60) if n <= ahead or n >= ahead + ring]
            one = paper_by_words(program, kept, "read")
            self.assertEqual(len(program), 60)
            self.assertEqual(self.told(program, one, still(program, 0)), "way")

    def test_sixty_rows_of_which_the_ring_itself_adds_on_the_way_in_and_out(self):
        # The way in and the way out go by the first half of the ring, which adds two for each row; the second half
        # makes up for it by one alone.
        for half in (10, 20, 28):
            size = 2 * half + 3
            program = [RECKON] * half + [("part", "c", size - 1)] + [RECKON] * half + [("part", "d", 0), END]
            hows = "own " * half + "read " * half, "read " * half + "own " * half
            kept = [(n, n + 1) for n in range(half)], [(n, n + 1) for n in range(half, 2 * half + 1)]
            one, other = paper_by_words(program, kept[0], hows[0]), paper_by_words(program, kept[1], hows[1])
            self.assertEqual(least_difference(program, one, other), None)
            self.assertEqual(self.told(program, one, other), "way")
            self.assertEqual(self.told(program, other, one), "way")

    def test_a_part_to_its_own_row(self):
        program = [("part", "c", 0), RECKON, END]
        one, other = paper_by_words(program, [(0, 1)], "own"), paper_by_words(program, [(0, 0)], "read")
        word, way = less_often(program, 0, one, other)
        self.assertEqual((word, way[:3], way[-2:]), ("way", [0, 0, 0], [1, 2]))
        self.assert_both_ways_round(program, one, other, ("way", "way"))

    def test_rings_within_rings(self):
        program = [SAY, RECKON, ("part", "c", 1), BOTH, ("part", "d", 1), ("part", "e", 0), END]
        papers = [still(program, 0), paper(program, 0), paper(program, 0, places(program))]
        for one, other in itertools.product(papers, repeat=2):
            self.told(program, one, other)
        self.assert_both_ways_round(program, papers[0], papers[1], ("never", "way"))

    def test_several_rings_of_which_one_alone_is_below_0(self):
        program = [
            RECKON, ("part", "a", 0), RECKON, ("part", "b", 2), RECKON, ("part", "c", 4), RECKON, ("part", "d", 6), END,
        ]
        for below in range(4):
            hows = ["own"] * 4
            hows[below] = "read"
            one = paper_by_words(program, [(-1, 0), (1, 2), (3, 4)], " ".join(hows))
            self.assert_both_ways_round(program, one, still(program, 0), ("way", "way"))


class Drawn(Case):
    def assert_least(self, program, k, one, other):
        least = least_difference(program, one, other)
        told = "way" if least is None or least < 0 else "never"
        self.assertEqual(self.told(program, one, other, k), told, (program, one, other))

    def test_all_papers_of_small_programs(self):
        for program in (
            [RECKON, END], [BOTH, ("part", "c", 0), END], [("part", "c", 0), RECKON, END],
            [SAY, RECKON, ("part", "c", 0), END],
        ):
            for one, other in itertools.product(all_papers(program, 0), repeat=2):
                self.assert_least(program, 0, one, other)

    def test_by_all_whole_ways(self):
        source = random.Random(25)
        for program in drawn_programs(source, 60, 3, 6):
            ways = whole_ways(program, 9)
            for k in range(len(reckonings(program))):
                one, other = drawn_paper(source, program, k), drawn_paper(source, program, k)
                below = [way for way in ways if counted_slowly(one, way) < counted_slowly(other, way)]
                if below:
                    self.assertEqual(self.told(program, one, other, k), "way", (program, one, other))
                self.assert_least(program, k, one, other)

    def test_larger_ones(self):
        source = random.Random(26)
        programs = [program for name, program in shapes()] + drawn_programs(source, 100, 6, 20)
        for program in programs:
            for k in range(len(reckonings(program))):
                papers = [drawn_paper(source, program, k), drawn_paper(source, program, k), paper(program, k)]
                for one, other in itertools.permutations(papers, 2):
                    self.assert_least(program, k, one, other)


if __name__ == "__main__":
    unittest.main()
