"""Point 2, the whole: of small programs by all papers that are let by, of larger ones by many of them."""

import itertools
import random
import unittest

from lazyhoist.errors import NoPaper
from lazyhoist.laying import laid, moved
from lazyhoist.less import less_often
from lazyhoist.lives import live
from lazyhoist.looks import look
from lazyhoist.papers import paper, still
from lazyhoist.programs import check, places, reckonings
from lazyhoist.wants import wanted
from tests.allpapers import (
    all_papers, all_subsets, counted_slowly, drawn_paper, least_difference, shows_never, some_stops, whole_ways)
from tests.lays import assert_laid, assert_same_run
from tests.samples import drawn_programs, drawn_small, shapes, small_programs

CHOICES = [list(some) for some in itertools.product((0, 1), repeat=4)]


def is_let_by(program, k, asked):
    try:
        look(program, k, asked)
    except NoPaper:
        return False
    return True


def some_let_by(source, program, k, count):
    """Papers that are let by: put off to stops, and others that were drawn."""
    told = [still(program, k), paper(program, k), paper(program, k, places(program))]
    told += [paper(program, k, some_stops(source, program)) for number in range(count)]
    wanted_at = wanted(program)
    kept_at = [place for place in places(program) if wanted_at[place] >> k & 1]
    drawn = [drawn_paper(source, program, k, kept_at) for number in range(4 * count)]
    return told + [asked for asked in drawn if is_let_by(program, k, asked)]


class Case(unittest.TestCase):
    def assert_last_is_least(self, program, k, asked, last, live_at):
        """No whole way on which it reckons less often, and what follows where on none the last one does."""
        least = least_difference(program, asked, last)
        self.assertIsNotNone(least, (program, asked))
        self.assertGreaterEqual(least, 0, (program, asked))
        word, numbers = less_often(program, k, asked, last)
        self.assertEqual(word, "never", (program, asked))
        self.assertTrue(shows_never(program, asked, last, numbers), (program, asked, numbers))
        if least_difference(program, last, asked) == 0:
            self.assertLessEqual(live_at, set(live(program, k, asked)), (program, asked))

    def assert_as_often(self, program, k, stops, last):
        asked = paper(program, k, stops)
        self.assertTrue(is_let_by(program, k, asked), (program, stops))
        for one, other in ((asked, last), (last, asked)):
            self.assertEqual(least_difference(program, one, other), 0, (program, stops))
            self.assertEqual(less_often(program, k, one, other)[0], "never", (program, stops))

    def assert_not_moved_again(self, program):
        told = moved(program)
        check(told)
        self.assertEqual(moved(told), told, program)
        for k in range(len(reckonings(told))):
            self.assertEqual(paper(told, k), still(told, k), program)


class Small(Case):
    def test_all_papers_of_all_programs_of_up_to_three_rows(self):
        for size in range(1, 4):
            for program in small_programs(size):
                last = paper(program, 0)
                live_at = set(live(program, 0, last))
                ways = whole_ways(program, 8)
                for asked in all_papers(program, 0):
                    if is_let_by(program, 0, asked):
                        self.assert_last_is_least(program, 0, asked, last, live_at)
                        for way in ways:
                            self.assertGreaterEqual(counted_slowly(asked, way), counted_slowly(last, way))
                for stops in all_subsets(places(program)):
                    self.assert_as_often(program, 0, stops, last)
                self.assert_not_moved_again(program)

    def test_all_papers_of_some_programs_of_four_and_five_rows(self):
        for program in drawn_small(random.Random(3), 30, 4, 5):
            last = paper(program, 0)
            live_at = set(live(program, 0, last))
            for asked in all_papers(program, 0):
                if is_let_by(program, 0, asked):
                    self.assert_last_is_least(program, 0, asked, last, live_at)

    def test_all_let_by_are_laid_in(self):
        for size in range(1, 4):
            for program in small_programs(size):
                for asked in all_papers(program, 0):
                    if is_let_by(program, 0, asked):
                        told = laid(program, [asked])
                        assert_laid(self, program, [asked], told, CHOICES)
                        for names in ({}, {"x": 1, "y": 2}, {"x": 1, "y": 2, "c": 1}):
                            assert_same_run(self, program, [asked], told, names)


class Larger(Case):
    def asked_about(self, count, seed):
        source = random.Random(seed)
        for name, program in shapes():
            yield program
        for program in drawn_small(source, count, 4, 9):
            yield program
        for program in drawn_programs(source, count, 5, 16):
            yield program
        for program in drawn_programs(source, count, 8, 20, ("a", "b")):
            yield program

    def test_no_paper_reckons_less_often_than_the_last_one(self):
        source = random.Random(4)
        for program in self.asked_about(40, 5):
            for k in range(len(reckonings(program))):
                last = paper(program, k)
                live_at = set(live(program, k, last))
                for asked in some_let_by(source, program, k, 3):
                    self.assert_last_is_least(program, k, asked, last, live_at)
                self.assert_as_often(program, k, some_stops(source, program), last)

    def test_laid_in(self):
        source = random.Random(6)
        ended = 0
        for program in self.asked_about(60, 7):
            for count in range(3):
                papers = [source.choice(some_let_by(source, program, k, 1)) for k in range(len(reckonings(program)))]
                told = laid(program, papers)
                choices = [[source.randrange(2) for size in range(12)] for number in range(4)]
                assert_laid(self, program, papers, told, choices)
                for number in range(4):
                    names = {name: source.choice((0, 1, 2, 3, 2 ** 64 - 1)) for name in "abcnxy"}
                    ended += assert_same_run(self, program, papers, told, names)
        self.assertGreater(ended, 1000)

    def test_not_moved_again(self):
        for program in self.asked_about(120, 8):
            self.assert_not_moved_again(program)

    def test_programs_of_sixty_rows(self):
        source = random.Random(9)
        for program in drawn_programs(source, 3, 35, 60, ("a", "b", "c", "d")):
            self.assert_not_moved_again(program)
            papers = [paper(program, k, some_stops(source, program)) for k in range(len(reckonings(program)))]
            choices = [[source.randrange(2) for size in range(40)] for number in range(4)]
            assert_laid(self, program, papers, laid(program, papers), choices)
            self.assert_not_moved_again(laid(program, papers))


if __name__ == "__main__":
    unittest.main()
