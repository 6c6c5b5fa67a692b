"""Points 17, 19 and 20, interface papers: still and paper."""

import unittest

from lazyhoist.firsts import firsts
from lazyhoist.papers import paper, still
from lazyhoist.programs import places, reckonings
from tests.allpapers import paper_by_words, rows_reckoning
from tests.samples import BOTH, COPY, END, RECKON, SAY, shapes


class Case(unittest.TestCase):
    def assert_paper(self, program, kept, hows, stops=None, k=0):
        self.assertEqual(paper(program, k, stops), paper_by_words(program, kept, hows, k))


class Last(Case):
    def test_of_one_row_that_reckons_it(self):
        self.assert_paper([RECKON, END], [], "own")
        self.assert_paper([SAY, SAY, RECKON, SAY, END], [], "own")
        self.assert_paper([SAY, BOTH, END], [], "own")
        self.assert_paper([("part", "c", 3), RECKON, END, SAY, END], [], "own")

    def test_a_row_that_is_read_from_behind_it(self):
        self.assert_paper([RECKON, RECKON, END], [], "keep read")
        self.assert_paper([SAY, RECKON, SAY, RECKON, SAY, RECKON, END], [], "keep read read")

    def test_read_behind_rows_that_read(self):
        # From row 0 the way to row 3 goes through row 1, which reads.
        self.assert_paper([RECKON, RECKON, ("part", "c", 4), RECKON, END], [], "keep read read")

    def test_the_row_that_reads_may_change_it(self):
        self.assert_paper([RECKON, SAY, BOTH, END], [], "keep read")
        self.assert_paper([RECKON, BOTH, RECKON, BOTH, END], [], "keep read keep read")

    def test_own_where_it_changes_what_it_reckons(self):
        self.assert_paper([BOTH, RECKON, END], [], "own own")
        self.assert_paper([BOTH, BOTH, RECKON, RECKON, END], [], "own own keep read")

    def test_own_where_a_row_changes_it_ahead_of_each_row_that_reads(self):
        self.assert_paper([RECKON, COPY, RECKON, SAY, RECKON, END], [], "own keep read")
        self.assert_paper([RECKON, ("copy", "y", "a"), RECKON, RECKON, END], [], "own keep read")

    def test_own_where_another_row_that_is_put_off_stands_ahead_of_each_row_that_reads(self):
        # Row 1 does not lead to row 4 but through row 3, which reckons it anew.
        program = [("part", "c", 2), RECKON, ("part", "d", 6), RECKON, RECKON, END, END]
        self.assert_paper(program, [], "own keep read")

    def test_own_where_a_kept_place_stands_ahead_of_each_row_that_reads(self):
        # Behind the part at row 2 it is kept on the one side that wants it: of the ways there one alone has it.
        program = [("part", "c", 2), RECKON, ("part", "d", 6), RECKON, ("part", "c", 3), END, END]
        self.assert_paper(program, [(2, 3)], "own read")

    def test_two_ways_of_which_one_alone_leads_to_a_row_that_reads(self):
        self.assert_paper([RECKON, ("part", "c", 4), RECKON, END, SAY, END], [], "keep read")
        self.assert_paper([RECKON, ("part", "c", 3), END, SAY, RECKON, END], [], "keep read")
        self.assert_paper([RECKON, ("part", "c", 4), COPY, END, RECKON, END], [], "keep read")

    def test_kept_where_ways_meet(self):
        program = [("part", "c", 3), RECKON, ("go", 4), COPY, RECKON, END]
        self.assert_paper(program, [(3, 4)], "keep read")
        program = [("part", "c", 3), RECKON, ("go", 4), SAY, RECKON, END]
        self.assert_paper(program, [(3, 4)], "keep read")
        program = [("part", "c", 2), RECKON, RECKON, END]
        self.assert_paper(program, [(0, 2)], "keep read")

    def test_kept_ahead_of_the_run(self):
        self.assert_paper([RECKON, ("part", "c", 0), END], [(-1, 0)], "read")
        self.assert_paper([SAY, RECKON, ("part", "c", 0), END], [(-1, 0)], "read")
        self.assert_paper([SAY, ("part", "x", 4), RECKON, ("go", 0), RECKON, END], [(-1, 0)], "read read")

    def test_kept_ahead_of_a_ring(self):
        self.assert_paper([COPY, SAY, RECKON, ("part", "c", 1), END], [(0, 1)], "read")
        self.assert_paper([COPY, RECKON, ("part", "c", 1), END], [(0, 1)], "read")

    def test_kept_on_a_ring(self):
        # Each time round it is changed on one of two ways.
        program = [("part", "d", 3), SAY, ("go", 4), COPY, RECKON, ("part", "c", 0), END]
        self.assert_paper(program, [], "own")
        program = [RECKON, ("part", "d", 3), COPY, RECKON, ("part", "c", 1), END]
        self.assert_paper(program, [(2, 3)], "keep read")

    def test_a_ring_on_which_it_is_reckoned_and_changed(self):
        self.assert_paper([SAY, BOTH, ("part", "c", 0), END], [], "own")
        self.assert_paper([RECKON, BOTH, ("part", "c", 0), END], [], "keep read")
        self.assert_paper([BOTH, RECKON, ("part", "c", 0), END], [(-1, 0)], "read keep")

    def test_a_ring_of_which_nothing_but_itself_speaks_against_it(self):
        self.assert_paper([SAY, ("part", "c", 0), RECKON, END], [], "own")
        self.assert_paper([SAY, ("part", "c", 0), RECKON, RECKON, END], [], "keep read")

    def test_a_go_as_row_0_and_as_the_last_row(self):
        program = [("go", 2), END, RECKON, ("part", "x", 5), ("go", 1), RECKON, ("go", 3)]
        self.assert_paper(program, [], "keep read")

    def test_several_ends(self):
        program = [("part", "a", 4), RECKON, RECKON, END, ("part", "b", 7), RECKON, END, COPY, END]
        self.assert_paper(program, [], "keep read own")

    def test_a_part_on_a_worth_leads_both_ways(self):
        for worth in (0, 1):
            self.assert_paper([("part", worth, 3), RECKON, ("go", 4), COPY, RECKON, END], [(3, 4)], "keep read")

    def test_several_kept_places_in_order(self):
        program = [
            ("part", "a", 5), ("part", "b", 7), ("part", "c", 9), RECKON, ("go", 10), SAY, ("go", 10),
            COPY, ("go", 10), ("go", 10), RECKON, END,
        ]
        self.assert_paper(program, [(6, 10), (8, 10), (9, 10)], "keep read")
        program = [("go", 5), COPY, RECKON, END, ("go", 2), ("part", "c", 1), ("part", "d", 4), RECKON, ("go", 2)]
        self.assert_paper(program, [(1, 2), (4, 2)], "read keep")

    def test_of_the_reckoning_that_was_asked_about(self):
        program = [
            ("reckon", "z", "-", "x", "y"), ("part", "c", 4), ("reckon", "z", "-", "y", "x"), ("go", 5),
            ("reckon", "x", "+", "x", "y"), ("reckon", "z", "-", "x", "y"), ("reckon", "z", "-", "y", "x"), END,
        ]
        self.assert_paper(program, [(4, 5)], "keep read", None, 0)
        self.assert_paper(program, [(4, 5)], "keep read", None, 1)
        self.assert_paper(program, [], "own", None, 2)

    def test_sixty_rows(self):
        program = [RECKON] * 59 + [END]
        self.assert_paper(program, [], "keep" + " read" * 58)
        program = [BOTH] * 58 + [RECKON, END]
        self.assert_paper(program, [], "own " * 58 + "own")
        program = [COPY] + [SAY] * 56 + [RECKON, ("part", "c", 1), END]
        self.assert_paper(program, [(0, 1)], "read")

    def test_a_dozen_reckonings_and_more(self):
        rows = [("reckon", "z", "+", "x", n) for n in range(14)]
        program = rows + [("part", "c", 16), ("copy", "x", 3)] + rows + [END]
        for k in range(14):
            self.assert_paper(program, [(15, 16)], "keep read", None, k)


class Stops(Case):
    def test_kept_at_a_stop(self):
        self.assert_paper([SAY, SAY, RECKON, END], [(0, 1)], "read", [(0, 1)])
        self.assert_paper([SAY, SAY, RECKON, RECKON, END], [(1, 2)], "read read", [(1, 2)])
        self.assert_paper([SAY, SAY, RECKON, END], [(-1, 0)], "read", [(1, 2), (-1, 0)])

    def test_a_stop_that_stops_nothing(self):
        self.assert_paper([SAY, RECKON, SAY, RECKON, END], [], "keep read", [(1, 2), (2, 3), (3, 4)])

    def test_kept_at_both_places_of_which_one_is_a_stop(self):
        program = [("part", "c", 3), SAY, ("go", 4), SAY, RECKON, END]
        self.assert_paper(program, [], "own")
        for stop in ((2, 4), (3, 4)):
            self.assert_paper(program, [(2, 4), (3, 4)], "read", [stop])
        self.assert_paper(program, [(0, 3), (2, 4)], "read", [(0, 3)])
        self.assert_paper(program, [(-1, 0)], "read", [(-1, 0), (0, 3)])

    def test_on_a_way_that_leads_back(self):
        program = [SAY, ("part", "c", 0), RECKON, END]
        for stop in ((-1, 0), (0, 1), (1, 0)):
            self.assert_paper(program, [(-1, 0)], "read", [stop])
        self.assert_paper(program, [(1, 2)], "read", [(1, 2)])

    def test_own_where_the_stop_stands_ahead_of_each_row_that_reads(self):
        program = [("part", "c", 2), RECKON, ("part", "d", 5), RECKON, END, END]
        self.assert_paper(program, [], "own own")
        self.assert_paper(program, [(2, 3)], "own read", [(2, 3)])
        self.assert_paper(program, [(0, 1)], "read own", [(0, 1)])

    def test_own_where_it_changes_what_it_reckons(self):
        self.assert_paper([SAY, BOTH, SAY, RECKON, END], [(2, 3)], "own read", [(2, 3)])
        self.assert_paper([SAY, BOTH, SAY, RECKON, END], [(1, 2)], "own read", [(1, 2)])

    def test_a_stop_on_one_way_alone(self):
        # Behind row 0 the one way has it kept anew, behind a row that changes it; the other one reads what row 0 kept.
        program = [RECKON, ("part", "c", 5), COPY, RECKON, END, RECKON, END]
        self.assert_paper(program, [], "keep own read")
        self.assert_paper(program, [(2, 3)], "keep read read", [(2, 3)])
        program = [RECKON, ("part", "c", 5), COPY, RECKON, END, SAY, END]
        self.assert_paper(program, [(2, 3)], "own read", [(2, 3)])

    def test_none_of_them_any_order_and_twice(self):
        program = [("part", "c", 3), SAY, ("go", 4), SAY, RECKON, RECKON, END]
        for stops in (None, [], ()):
            self.assert_paper(program, [], "keep read", stops)
        self.assertEqual(paper(program, 0), ((), ((4, "keep"), (5, "read"))))
        self.assertEqual(paper(program, 0, stops=[(0, 1)]), (((0, 1), (3, 4)), ((4, "read"), (5, "read"))))
        for stops in (((0, 1), (0, 3)), [(0, 3), (0, 1)], [(0, 3), (0, 1), (0, 3)], ((0, 1), (0, 1), (0, 3))):
            self.assert_paper(program, [(0, 1), (0, 3)], "read read", stops)


class First(Case):
    def test_kept_at_just_the_first_places(self):
        for name, program in shapes():
            for k in range(len(reckonings(program))):
                kept, hows = paper(program, k, places(program))
                told = firsts(program)
                self.assertEqual(kept, tuple(place for place in places(program) if told[place] >> k & 1), name)
                self.assertEqual(hows, tuple((n, "read") for n in rows_reckoning(program, k)), name)

    def test_written_out(self):
        program = [("part", "c", 3), RECKON, ("go", 4), COPY, RECKON, END]
        self.assert_paper(program, [(0, 1), (3, 4)], "read read", places(program))
        program = [SAY, BOTH, ("part", "c", 0), END]
        self.assert_paper(program, [(-1, 0), (2, 0)], "read", tuple(places(program)))
        program = [SAY, SAY, RECKON, COPY, END]
        self.assert_paper(program, [(-1, 0)], "read", places(program)[::-1])


class Still(Case):
    def test_no_kept_places_and_own_for_all_rows(self):
        self.assertEqual(still([RECKON, END], 0), ((), ((0, "own"),)))
        self.assertEqual(still([RECKON, BOTH, SAY, RECKON, END], 0), ((), ((0, "own"), (1, "own"), (3, "own"))))
        for name, program in shapes():
            for k in range(len(reckonings(program))):
                self.assertEqual(still(program, k), ((), tuple((n, "own") for n in rows_reckoning(program, k))), name)

    def test_of_the_reckoning_that_was_asked_about(self):
        program = [
            ("reckon", "z", "-", "x", "y"), ("reckon", "z", "-", "y", "x"), ("reckon", "z", "+", "x", "y"),
            ("copy", "z", "x"), ("reckon", "z", "-", "x", "y"), ("reckon", "y", "+", "x", "y"), END,
        ]
        self.assertEqual(still(program, 0), ((), ((0, "own"), (4, "own"))))
        self.assertEqual(still(program, 1), ((), ((1, "own"),)))
        self.assertEqual(still(program, 2), ((), ((2, "own"), (5, "own"))))


class Kinds(unittest.TestCase):
    def test_tuples_of_tuples(self):
        for name, program in shapes():
            for k in range(len(reckonings(program))):
                for told in (still(program, k), paper(program, k), paper(program, k, places(program))):
                    self.assertEqual((type(told), len(told)), (tuple, 2), name)
                    self.assertEqual((type(told[0]), type(told[1])), (tuple, tuple), name)
                    for pair in told[0] + told[1]:
                        self.assertEqual((type(pair), len(pair)), (tuple, 2), name)
                    self.assertEqual(list(told[0]), [place for place in places(program) if place in told[0]], name)
                    self.assertEqual([n for n, how in told[1]], rows_reckoning(program, k), name)


if __name__ == "__main__":
    unittest.main()
