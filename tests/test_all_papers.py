"""Points 17 to 22 and 24, and 2 of papers, against their own words: by all ways and papers of small programs."""

import random
import unittest

from lazyhoist.errors import NoPaper
from lazyhoist.firsts import firsts
from lazyhoist.lives import live
from lazyhoist.looks import held, look
from lazyhoist.offs import put_off
from lazyhoist.papers import paper, still
from lazyhoist.programs import places, reckonings
from lazyhoist.wants import wanted
from tests.allpapers import (
    all_papers, all_subsets, drawn_paper, held_slowly, is_empty_way, live_slowly, may_be_put_off, paper_slowly,
    put_off_slowly, refused_slowly, rows_reckoning, some_stops)
from tests.allways import is_unwanted_way, ways_from
from tests.samples import drawn_programs, drawn_small, shapes, small_programs

def at_first(program, k):
    told = firsts(program)
    return [place for place in places(program) if told[place] >> k & 1]


def refusal_of(program, k, asked):
    try:
        told = look(program, k, asked)
    except NoPaper as refusal:
        return refusal
    if told is not None:
        raise AssertionError("look gives something back")
    return None


class Case(unittest.TestCase):
    def assert_looked_at(self, program, k, asked, held_at):
        """What look says of a paper, held against what is told of its box."""
        told = refused_slowly(program, k, asked, wanted(program), held_at)
        refusal = refusal_of(program, k, asked)
        if refusal is None:
            self.assertIsNone(told, (program, asked))
            return
        self.assertEqual((refusal.word, refusal.at), told, (program, asked))
        if refusal.word == "unwanted":
            self.assertTrue(is_unwanted_way(program, k, refusal.at, refusal.way), (program, asked, refusal.way))
        else:
            self.assertTrue(is_empty_way(program, k, asked, refusal.at, refusal.way), (program, asked, refusal.way))

    def assert_by_all_ways(self, program, k, asked, beginnings, ways_by_row):
        held_at = held_slowly(program, k, asked, beginnings)
        self.assertEqual(held(program, k, asked), held_at, (program, asked))
        self.assertEqual(live(program, k, asked), live_slowly(program, k, asked, ways_by_row), (program, asked))
        self.assert_looked_at(program, k, asked, held_at)

    def assert_put_off(self, program, k, stops, ways_by_row):
        off = put_off(program, k, stops)
        self.assertEqual(off, put_off_slowly(program, k, stops, at_first(program, k)), (program, stops))
        self.assertEqual(paper(program, k, stops), paper_slowly(program, k, off, ways_by_row), (program, stops))

    def assert_promised(self, program, k, stops, live_at):
        """Point 2 of a paper that is put off to some places."""
        asked = paper(program, k, stops)
        self.assertIsNone(refusal_of(program, k, asked), (program, stops))
        self.assertLessEqual(live_at, set(live(program, k, asked)), (program, stops))


class Small(Case):
    def test_all_papers_of_all_programs_of_up_to_three_rows(self):
        for size in range(1, 4):
            for program in small_programs(size):
                beginnings, ways_by_row = self.ways_of(program)
                for asked in all_papers(program, 0):
                    self.assert_by_all_ways(program, 0, asked, beginnings, ways_by_row)

    def test_some_papers_of_programs_of_four_to_six_rows(self):
        source = random.Random(21)
        for program in drawn_small(source, 100, 4, 6):
            beginnings, ways_by_row = self.ways_of(program)
            wanted_at = wanted(program)
            kept_at = [place for place in places(program) if wanted_at[place] & 1]
            papers = [drawn_paper(source, program, 0) for count in range(3)]
            papers += [drawn_paper(source, program, 0, kept_at) for count in range(3)]
            for asked in papers:
                self.assert_by_all_ways(program, 0, asked, beginnings, ways_by_row)

    def test_the_greatest_of_all_sets(self):
        for size in range(1, 4):
            for program in small_programs(size):
                for stops in all_subsets(places(program)):
                    self.assert_greatest(program, stops)

    def assert_greatest(self, program, stops):
        told_places, told_rows = put_off(program, 0, stops)
        first_places = at_first(program, 0)
        self.assertTrue(may_be_put_off(program, 0, stops, first_places, told_places, told_rows), (program, stops))
        for rows in all_subsets(range(len(program))):
            # Of all sets with these rows, the one with the most places is the one to ask about.
            with_these = [
                (n, m) for n, m in places(program)
                if (n, m) in first_places or (n in rows and n not in rows_reckoning(program, 0))]
            if may_be_put_off(program, 0, stops, first_places, with_these, rows):
                self.assertLessEqual(set(rows), set(told_rows), (program, stops))
                self.assertLessEqual(set(with_these), set(told_places), (program, stops))

    def test_all_stops_of_all_programs_of_up_to_three_rows(self):
        for size in range(1, 4):
            for program in small_programs(size):
                ways_by_row = self.ways_of(program)[1]
                live_at = set(live(program, 0, paper(program, 0)))
                for stops in all_subsets(places(program)):
                    self.assert_put_off(program, 0, stops, ways_by_row)
                    self.assert_promised(program, 0, stops, live_at)

    def test_some_stops_of_programs_of_four_to_seven_rows(self):
        source = random.Random(18)
        for program in drawn_small(source, 200, 4, 7):
            ways_by_row = self.ways_of(program)[1]
            live_at = set(live(program, 0, paper(program, 0)))
            for stops in [[], places(program)] + [some_stops(source, program) for count in range(4)]:
                self.assert_put_off(program, 0, stops, ways_by_row)
                self.assert_promised(program, 0, stops, live_at)

    def test_all_stops_of_programs_of_five_and_six_rows(self):
        for program in drawn_small(random.Random(2), 40, 5, 6):
            live_at = set(live(program, 0, paper(program, 0)))
            for stops in all_subsets(places(program)):
                self.assert_promised(program, 0, stops, live_at)

    def ways_of(self, program):
        """The beginnings, long enough to go round on their way to what changes it and on from there once more, and the
        ways from each row, long enough to come to it again without another row twice."""
        size = len(program)
        return ways_from(program, 0, 2 * size + 1), [ways_from(program, n, size + 1) for n in range(size)]


class Larger(Case):
    """Programs of several reckonings: what hangs on few rows each is asked about here."""

    def asked_about(self):
        for name, program in shapes():
            yield program
        for program in drawn_programs(random.Random(19), 60, 6, 16):
            yield program
        for program in drawn_programs(random.Random(20), 40, 8, 20, ("a", "b")):
            yield program

    def test_put_off_and_let_by(self):
        source = random.Random(22)
        for program in self.asked_about():
            first_places = firsts(program)
            for k in range(len(reckonings(program))):
                at_first = [place for place in places(program) if first_places[place] >> k & 1]
                live_at = set(live(program, k, paper(program, k)))
                self.assertIsNone(look(program, k, still(program, k)))
                for stops in ([], some_stops(source, program)):
                    self.assertEqual(put_off(program, k, stops), put_off_slowly(program, k, stops, at_first))
                    self.assert_promised(program, k, stops, live_at)

    def test_looked_at(self):
        source = random.Random(24)
        for program in self.asked_about():
            wanted_at = wanted(program)
            for k in range(len(reckonings(program))):
                kept_at = [place for place in places(program) if wanted_at[place] >> k & 1]
                for asked in (drawn_paper(source, program, k), drawn_paper(source, program, k, kept_at)):
                    self.assert_looked_at(program, k, asked, held(program, k, asked))


if __name__ == "__main__":
    unittest.main()
