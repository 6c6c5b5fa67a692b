"""Point 24, interface lives: live."""

import unittest

from lazyhoist.lives import live
from lazyhoist.papers import paper, still
from lazyhoist.programs import places, reckonings
from tests.allpapers import paper_by_words
from tests.samples import BOTH, COPY, END, RECKON, SAY, shapes


class Case(unittest.TestCase):
    def assert_live(self, program, kept, hows, told, k=0):
        self.assertEqual(live(program, k, paper_by_words(program, kept, hows, k)), told)


class Straight(Case):
    PROGRAM = [SAY, RECKON, SAY, RECKON, END]

    def test_between_keep_and_read(self):
        self.assert_live(self.PROGRAM, [], "keep read", [(1, 2), (2, 3)])

    def test_through_rows_that_neither_keep_nor_change_it(self):
        self.assert_live(self.PROGRAM, [], "own read", [(-1, 0), (0, 1), (1, 2), (2, 3)])
        self.assert_live(self.PROGRAM, [(-1, 0)], "own read", [(-1, 0), (0, 1), (1, 2), (2, 3)])
        program = [("copy", "z", "x"), ("reckon", "z", "-", "x", "y"), ("go", 3), ("part", "x", 5), RECKON, END]
        self.assert_live(program, [], "read", [(-1, 0), (0, 1), (1, 2), (2, 3), (3, 4)], 1)

    def test_through_rows_that_read(self):
        self.assert_live(self.PROGRAM, [(-1, 0)], "read read", [(-1, 0), (0, 1), (1, 2), (2, 3)])
        self.assert_live(self.PROGRAM, [(-1, 0)], "read own", [(-1, 0), (0, 1)])

    def test_not_through_a_kept_place(self):
        self.assert_live(self.PROGRAM, [(1, 2)], "own read", [(1, 2), (2, 3)])
        self.assert_live(self.PROGRAM, [(2, 3)], "own read", [(2, 3)])
        self.assert_live(self.PROGRAM, [(0, 1), (2, 3)], "read read", [(0, 1), (2, 3)])

    def test_what_is_kept_at_the_place_itself_is_not_asked(self):
        every = [(-1, 0), (0, 1), (1, 2), (2, 3), (3, 4)]
        self.assert_live(self.PROGRAM, every, "own read", [(2, 3)])
        self.assert_live(self.PROGRAM, every, "read own", [(0, 1)])
        self.assert_live([RECKON, END], [(-1, 0)], "read", [(-1, 0)])

    def test_no_row_reads(self):
        for hows in ("own own", "keep keep", "own keep", "keep own"):
            for kept in ([], [(-1, 0)], [(0, 1), (2, 3)]):
                self.assert_live(self.PROGRAM, kept, hows, [])

    def test_not_through_a_keep_row(self):
        self.assert_live([SAY, RECKON, RECKON, RECKON, END], [], "own keep read", [(2, 3)])
        self.assert_live([SAY, RECKON, RECKON, RECKON, END], [], "keep own read", [(1, 2), (2, 3)])

    def test_not_behind_the_last_row_that_reads(self):
        self.assert_live([RECKON, SAY, SAY, END], [(-1, 0)], "read", [(-1, 0)])


class Changed(Case):
    def test_not_through_a_row_that_changes_it(self):
        for row in (COPY, ("copy", "y", "x"), ("copy", "x", "a"), ("reckon", "y", "*", "a", "b")):
            program = [SAY, row, SAY, RECKON, END]
            self.assert_live(program, [], "read", [(1, 2), (2, 3)], reckonings(program).index(("+", "x", "y")))

    def test_through_a_row_that_sets_another_name(self):
        self.assert_live([SAY, ("copy", "z", 1), SAY, RECKON, END], [], "read", [(-1, 0), (0, 1), (1, 2), (2, 3)])

    def test_the_row_that_reads_may_change_it(self):
        self.assert_live([SAY, BOTH, SAY, END], [], "read", [(-1, 0), (0, 1)])
        self.assert_live([BOTH, SAY, BOTH, END], [], "read read", [(-1, 0), (0, 1), (1, 2)])

    def test_not_through_a_row_that_reckons_and_changes_it(self):
        self.assert_live([SAY, BOTH, SAY, RECKON, END], [], "own read", [(1, 2), (2, 3)])
        self.assert_live([SAY, BOTH, SAY, RECKON, END], [], "keep read", [(1, 2), (2, 3)])
        self.assert_live([SAY, BOTH, SAY, RECKON, END], [], "read own", [(-1, 0), (0, 1)])


class Parting(Case):
    def test_one_side_alone(self):
        program = [SAY, ("part", "c", 4), RECKON, END, SAY, END]
        self.assert_live(program, [], "read", [(-1, 0), (0, 1), (1, 2)])
        self.assert_live(program, [(1, 2)], "read", [(1, 2)])
        program = [SAY, ("part", "c", 4), SAY, END, SAY, RECKON, END]
        self.assert_live(program, [], "read", [(-1, 0), (0, 1), (1, 4), (4, 5)])

    def test_both_sides_of_which_one_is_kept(self):
        program = [SAY, ("part", "c", 4), RECKON, END, RECKON, END]
        self.assert_live(program, [(1, 2)], "read read", [(-1, 0), (0, 1), (1, 2), (1, 4)])
        self.assert_live(program, [(1, 2), (1, 4)], "read read", [(1, 2), (1, 4)])
        self.assert_live(program, [(1, 4)], "own read", [(1, 4)])

    def test_all_places_that_lead_to_a_row(self):
        program = [("part", "c", 3), SAY, ("go", 4), COPY, RECKON, END]
        self.assert_live(program, [], "read", [(-1, 0), (0, 1), (1, 2), (2, 4), (3, 4)])
        self.assert_live(program, [(2, 4)], "read", [(2, 4), (3, 4)])
        self.assert_live(program, [(3, 4)], "read", [(-1, 0), (0, 1), (1, 2), (2, 4), (3, 4)])


class Back(Case):
    PROGRAM = [SAY, ("part", "c", 0), RECKON, END]

    def test_round(self):
        every = [(-1, 0), (0, 1), (1, 2), (1, 0)]
        self.assert_live(self.PROGRAM, [], "read", every)
        program = [RECKON, SAY, ("part", "c", 0), END]
        self.assert_live(program, [], "read", [(-1, 0), (0, 1), (1, 2), (2, 0)])
        self.assert_live(program, [], "own", [])

    def test_what_is_kept_ahead_of_the_run_is_not_asked_from_row_0(self):
        self.assert_live(self.PROGRAM, [(-1, 0)], "read", [(-1, 0), (0, 1), (1, 2), (1, 0)])
        program = [SAY, COPY, ("part", "c", 0), RECKON, END]
        self.assert_live(program, [(-1, 0)], "read", [(1, 2), (2, 3)])

    def test_kept_on_the_ring(self):
        self.assert_live(self.PROGRAM, [(1, 0)], "read", [(-1, 0), (0, 1), (1, 2), (1, 0)])
        self.assert_live(self.PROGRAM, [(0, 1)], "read", [(0, 1), (1, 2)])
        self.assert_live(self.PROGRAM, [(1, 2)], "read", [(1, 2)])
        program = [RECKON, SAY, ("part", "c", 0), END]
        self.assert_live(program, [(2, 0)], "read", [(-1, 0), (2, 0)])

    def test_a_part_to_its_own_row(self):
        program = [("part", "c", 0), RECKON, END]
        self.assert_live(program, [(-1, 0)], "read", [(-1, 0), (0, 1), (0, 0)])
        self.assert_live(program, [(0, 0)], "read", [(-1, 0), (0, 1), (0, 0)])
        self.assert_live(program, [(0, 1)], "read", [(0, 1)])

    def test_a_row_that_reads_and_changes_it_round_and_round(self):
        self.assert_live([SAY, BOTH, ("part", "c", 0), END], [], "read", [(-1, 0), (0, 1), (1, 2), (2, 0)])
        self.assert_live([SAY, BOTH, ("part", "c", 0), END], [(2, 0)], "read", [(-1, 0), (0, 1), (2, 0)])


class More(Case):
    def test_of_the_reckoning_that_was_asked_about(self):
        program = [SAY, RECKON, ("reckon", "z", "+", "y", "x"), RECKON, ("reckon", "z", "+", "y", "x"), END]
        self.assert_live(program, [], "keep read", [(1, 2), (2, 3)], 0)
        self.assert_live(program, [], "keep read", [(2, 3), (3, 4)], 1)

    def test_sixty_rows(self):
        program = [SAY] * 58 + [RECKON, END]
        self.assert_live(program, [], "read", [(n - 1, n) for n in range(59)])
        self.assert_live(program, [(29, 30)], "read", [(n - 1, n) for n in range(30, 59)])

    def test_more_rows_than_calls_may_go_deep(self):
        program = [SAY] * 3000 + [RECKON, END]
        self.assert_live(program, [], "read", [(n - 1, n) for n in range(3001)])

    def test_lists_in_order(self):
        for name, program in shapes():
            for k in range(len(reckonings(program))):
                self.assertEqual(live(program, k, still(program, k)), [], name)
                for asked in (paper(program, k), paper(program, k, places(program))):
                    told = live(program, k, asked)
                    self.assertIs(type(told), list)
                    self.assertEqual(told, [place for place in places(program) if place in told], name)


if __name__ == "__main__":
    unittest.main()
