"""Points 21 and 22, interface looks: held and look."""

import unittest

from lazyhoist.errors import HoistError, NoPaper, NoProgram, NoText
from lazyhoist.looks import held, look
from lazyhoist.papers import paper, still
from lazyhoist.programs import places, reckonings
from tests.allpapers import is_empty_way, paper_by_words
from tests.allways import is_unwanted_way
from tests.samples import BOTH, COPY, END, RECKON, SAY, shapes


class Case(unittest.TestCase):
    def assert_held(self, program, kept, hows, told, k=0):
        self.assertEqual(held(program, k, paper_by_words(program, kept, hows, k)), told)

    def refusal_of(self, program, asked, k=0):
        with self.assertRaises(NoPaper) as taken:
            look(program, k, asked)
        return taken.exception

    def assert_let_by(self, program, kept, hows, k=0):
        self.assertIsNone(look(program, k, paper_by_words(program, kept, hows, k)))

    def assert_form(self, program, asked, k=0):
        refusal = self.refusal_of(program, asked, k)
        self.assertEqual((refusal.word, refusal.at, refusal.way), ("form", None, None), asked)

    def assert_unwanted(self, program, kept, hows, at, ways=None, k=0):
        """Refused at this place by one of these ways, if they are told; always by one as in 13."""
        refusal = self.refusal_of(program, paper_by_words(program, kept, hows, k), k)
        self.assertEqual((refusal.word, refusal.at), ("unwanted", at))
        self.assertIs(type(refusal.way), list)
        self.assertTrue(is_unwanted_way(program, k, at, refusal.way), refusal.way)
        self.assertTrue(ways is None or refusal.way in ways, refusal.way)

    def assert_empty(self, program, kept, hows, at, ways=None, k=0):
        asked = paper_by_words(program, kept, hows, k)
        refusal = self.refusal_of(program, asked, k)
        self.assertEqual((refusal.word, refusal.at), ("empty", at))
        self.assertIs(type(refusal.at), int)
        self.assertIs(type(refusal.way), list)
        self.assertTrue(is_empty_way(program, k, asked, at, refusal.way), refusal.way)
        self.assertTrue(ways is None or refusal.way in ways, refusal.way)


class Held(Case):
    PROGRAM = [SAY, RECKON, SAY, RECKON, END]

    def test_behind_a_kept_place_and_at_it(self):
        self.assert_held(self.PROGRAM, [(-1, 0)], "read read", [(-1, 0), (0, 1), (1, 2), (2, 3), (3, 4)])
        self.assert_held(self.PROGRAM, [(1, 2)], "read read", [(1, 2), (2, 3), (3, 4)])
        self.assert_held(self.PROGRAM, [(3, 4)], "read read", [(3, 4)])

    def test_behind_a_keep_row(self):
        self.assert_held(self.PROGRAM, [], "keep read", [(1, 2), (2, 3), (3, 4)])
        self.assert_held(self.PROGRAM, [], "own keep", [(3, 4)])

    def test_not_behind_own_and_read_rows(self):
        for hows in ("own own", "own read", "read read", "read own"):
            self.assert_held(self.PROGRAM, [], hows, [])

    def test_not_behind_a_keep_row_that_changes_it(self):
        self.assert_held([SAY, BOTH, SAY, END], [], "keep", [])
        self.assert_held([SAY, BOTH, SAY, END], [(-1, 0)], "keep", [(-1, 0), (0, 1)])
        self.assert_held([SAY, ("reckon", "y", "+", "x", "y"), SAY, END], [], "keep", [])

    def test_not_behind_a_row_that_changes_it_until_it_is_put_again(self):
        program = [SAY, COPY, SAY, RECKON, SAY, END]
        self.assert_held(program, [(-1, 0)], "read", [(-1, 0), (0, 1)])
        self.assert_held(program, [(-1, 0)], "keep", [(-1, 0), (0, 1), (3, 4), (4, 5)])
        self.assert_held(program, [(-1, 0), (1, 2)], "read", places(program))
        self.assert_held(program, [(-1, 0), (2, 3)], "read", [(-1, 0), (0, 1), (2, 3), (3, 4), (4, 5)])
        self.assert_held([SAY, BOTH, SAY, END], [(1, 2)], "own", [(1, 2), (2, 3)])
        self.assert_held([SAY, BOTH, SAY, END], [(0, 1)], "read", [(0, 1)])

    def test_through_a_row_that_sets_another_name(self):
        self.assert_held([SAY, ("copy", "z", "x"), RECKON, END], [(-1, 0)], "read", [(-1, 0), (0, 1), (1, 2), (2, 3)])

    def test_where_two_ways_meet_of_which_one_alone_has_put_it(self):
        program = [("part", "c", 2), SAY, SAY, RECKON, END]
        self.assert_held(program, [(0, 1)], "read", [(0, 1), (1, 2)])
        self.assert_held(program, [(0, 2)], "read", [(0, 2)])
        self.assert_held(program, [(1, 2)], "read", [(1, 2)])
        self.assert_held(program, [(0, 1), (0, 2)], "read", [(0, 1), (0, 2), (1, 2), (2, 3), (3, 4)])
        program = [("part", "c", 3), RECKON, ("go", 4), COPY, RECKON, END]
        self.assert_held(program, [], "keep read", [(1, 2), (2, 4)])
        self.assert_held(program, [(3, 4)], "keep read", [(1, 2), (2, 4), (3, 4), (4, 5)])

    def test_ahead_of_the_run(self):
        self.assert_held([RECKON, END], [(-1, 0)], "own", [(-1, 0), (0, 1)])
        self.assert_held([RECKON, END], [], "own", [])
        self.assert_held([RECKON, END], [], "keep", [(0, 1)])

    def test_row_0_to_which_others_lead(self):
        program = [SAY, ("part", "c", 0), RECKON, END]
        self.assert_held(program, [(1, 0)], "read", [(1, 0)])
        self.assert_held(program, [(-1, 0)], "read", [(-1, 0), (0, 1), (1, 2), (1, 0), (2, 3)])
        self.assert_held(program, [(0, 1)], "read", [(0, 1), (1, 2), (1, 0), (2, 3)])
        self.assert_held([RECKON, COPY, ("part", "c", 0), END], [(-1, 0)], "read", [(-1, 0)])
        self.assert_held([RECKON, COPY, ("part", "c", 0), END], [(2, 0)], "read", [(2, 0)])
        self.assert_held([RECKON, COPY, ("part", "c", 0), END], [(-1, 0), (2, 0)], "read", [(-1, 0), (0, 1), (2, 0)])

    def test_round_and_round(self):
        program = [RECKON, ("part", "d", 3), COPY, RECKON, ("part", "c", 1), END]
        self.assert_held(program, [], "keep read", [(0, 1)])
        self.assert_held(program, [], "keep keep", [(0, 1), (1, 2), (1, 3), (3, 4), (4, 5), (4, 1)])
        self.assert_held(program, [(2, 3)], "keep read", [(0, 1), (1, 2), (1, 3), (2, 3), (3, 4), (4, 5), (4, 1)])

    def test_a_part_to_its_own_row(self):
        program = [("part", "c", 0), RECKON, END]
        self.assert_held(program, [(-1, 0)], "read", [(-1, 0), (0, 1), (0, 0), (1, 2)])
        self.assert_held(program, [(0, 0)], "read", [(0, 0)])

    def test_of_the_reckoning_that_was_asked_about(self):
        program = [SAY, RECKON, ("reckon", "y", "+", "y", "z"), SAY, END]
        self.assert_held(program, [], "keep", [(1, 2)], 0)
        self.assert_held(program, [], "keep", [], 1)
        self.assert_held(program, [(2, 3)], "keep", [(2, 3), (3, 4)], 1)

    def test_sixty_rows_and_more_than_calls_may_go_deep(self):
        for size in (60, 3000):
            program = [SAY] * (size - 2) + [RECKON, END]
            self.assert_held(program, [(-1, 0)], "read", places(program))
            self.assert_held(program, [(size // 2 - 1, size // 2)], "own", places(program)[size // 2:])

    def test_lists_in_order(self):
        for name, program in shapes():
            for k in range(len(reckonings(program))):
                self.assertEqual(held(program, k, still(program, k)), [], name)
                for asked in (paper(program, k), paper(program, k, places(program))):
                    told = held(program, k, asked)
                    self.assertIs(type(told), list)
                    self.assertEqual(told, [place for place in places(program) if place in told], name)


class LetBy(Case):
    def test_still_first_and_last_papers(self):
        for name, program in shapes():
            for k in range(len(reckonings(program))):
                for asked in (still(program, k), paper(program, k), paper(program, k, places(program))):
                    self.assertIsNone(look(program, k, asked), name)

    def test_others(self):
        program = [SAY, RECKON, SAY, RECKON, END]
        self.assert_let_by(program, [], "keep read")
        self.assert_let_by(program, [], "keep keep")
        self.assert_let_by(program, [], "keep own")
        self.assert_let_by(program, [(-1, 0), (0, 1), (1, 2), (2, 3)], "read read")
        self.assert_let_by(program, [(-1, 0)], "own own")
        self.assert_let_by(program, [(2, 3)], "own read")
        self.assert_let_by([SAY, BOTH, SAY, END], [], "keep")
        self.assert_let_by([SAY, BOTH, SAY, RECKON, END], [(0, 1), (1, 2)], "read read")
        self.assert_let_by([SAY, ("part", "c", 0), RECKON, END], [(1, 2)], "read")
        self.assert_let_by([SAY, ("part", "c", 0), RECKON, END], [(-1, 0), (1, 0)], "read")


class Form(Case):
    PROGRAM = [SAY, RECKON, ("part", "c", 0), RECKON, ("reckon", "z", "-", "x", "y"), END]
    HOWS = ((1, "own"), (3, "own"))

    def assert_kept(self, *kept):
        self.assert_form(self.PROGRAM, (kept, self.HOWS))

    def assert_hows(self, *hows):
        self.assert_form(self.PROGRAM, ((), hows))
        self.assert_form(self.PROGRAM, (((-1, 0),), hows))

    def test_a_place_kept_twice(self):
        self.assert_kept((0, 1), (0, 1))
        self.assert_kept((-1, 0), (0, 1), (2, 3), (2, 3))
        self.assert_kept((0, 1), (2, 3), (0, 1))

    def test_in_another_order(self):
        self.assert_kept((0, 1), (-1, 0))
        self.assert_kept((2, 0), (2, 3))
        self.assert_kept((-1, 0), (2, 3), (0, 1))

    def test_no_place_of_the_program(self):
        for pair in ((0, 2), (1, 0), (0, 0), (5, 6), (6, 7), (-1, 1), (-1, -1), (-2, 0), (2, 1), (3, -1), (60, 61)):
            self.assert_kept(pair)
            self.assert_kept(*sorted([(0, 1), pair]))
            self.assert_kept(*sorted([(3, 4), pair]))

    def test_a_how_left_out(self):
        self.assert_hows()
        self.assert_hows((1, "own"))
        self.assert_hows((3, "own"))

    def test_a_how_twice(self):
        self.assert_hows((1, "own"), (1, "own"), (3, "own"))
        self.assert_hows((1, "own"), (3, "own"), (3, "own"))
        self.assert_hows((1, "own"), (3, "own"), (1, "own"))
        self.assert_hows((1, "own"), (1, "own"))
        self.assert_hows((1, "own"), (1, "keep"), (3, "own"))

    def test_hows_in_another_order(self):
        self.assert_hows((3, "own"), (1, "own"))

    def test_a_how_for_a_row_that_does_not_reckon_it(self):
        for n in (0, 2, 4, 5, 6, 60, -1, -5):
            self.assert_hows(*sorted([(1, "own"), (3, "own"), (n, "own")]))
            self.assert_hows(*sorted([(1, "own"), (n, "own")]))
        self.assert_form(self.PROGRAM, ((), ((1, "own"), (3, "own"))), 1)

    def test_a_how_of_another_word(self):
        for word in ("", "o", "ow", "OWN", "Own", "own ", "kept", "reads", "ownkeep", "reckon", "none", "put"):
            self.assert_hows((1, word), (3, "own"))
            self.assert_hows((1, "own"), (3, word))

    def test_whatever_else_is_wrong(self):
        # The one place is not wanted, and row 1 reads from an empty box.
        for asked in (
            (((5, 6),), ((1, "read"), (3, "own"))),
            (((4, 5), (4, 5)), ((1, "read"), (3, "own"))),
            (((4, 5),), ((1, "read"), (3, ""))),
            (((4, 5),), ((1, "read"),)),
            (((4, 5), (3, 4)), ((1, "read"), (3, "own"))),
            (((3, 4), (4, 5)), ((3, "own"), (1, "read"))),
        ):
            self.assert_form(self.PROGRAM, asked)

    def test_of_one_row_that_reckons_it(self):
        for asked in (((), ()), (((0, 0),), ((0, "own"),)), ((), ((1, "own"),)), ((), ((0, "own"), (1, "own")))):
            self.assert_form([RECKON, END], asked)
        self.assert_let_by([RECKON, END], [(-1, 0)], "read")

    def test_another_programs_paper(self):
        asked = paper([SAY, RECKON, RECKON, END], 0)
        self.assertIsNone(look([SAY, RECKON, RECKON, END], 0, asked))
        self.assert_form([RECKON, RECKON, SAY, END], asked)


class Unwanted(Case):
    def test_at_the_first_kept_place_that_does_not_want_it(self):
        program = [SAY, RECKON, SAY, SAY, END]
        self.assert_unwanted(program, [(1, 2)], "own", (1, 2), [[2, 3, 4]])
        self.assert_unwanted(program, [(3, 4)], "own", (3, 4), [[4]])
        self.assert_unwanted(program, [(-1, 0), (0, 1), (2, 3), (3, 4)], "read", (2, 3), [[3, 4]])

    def test_ahead_of_the_run(self):
        program = [SAY, COPY, SAY, RECKON, END]
        self.assert_unwanted(program, [(-1, 0)], "own", (-1, 0), [[0, 1]])
        self.assert_unwanted(program, [(-1, 0), (0, 1), (1, 2)], "read", (-1, 0), [[0, 1]])
        self.assert_unwanted(program, [(0, 1), (1, 2)], "read", (0, 1), [[1]])

    def test_in_the_order_of_the_places(self):
        program = [("part", "c", 3), SAY, END, SAY, RECKON, ("part", "c", 0), END]
        self.assert_unwanted(program, [(0, 1), (4, 5), (5, 0)], "own", (0, 1), [[1, 2]])
        self.assert_unwanted(program, [(0, 3), (3, 4), (5, 6), (5, 0)], "own", (5, 6), [[6]])
        self.assert_unwanted(program, [(0, 3), (5, 0)], "own", (5, 0), [[0, 1, 2]])

    def test_ahead_of_empty_wherever_both_are_wrong(self):
        program = [RECKON, SAY, RECKON, SAY, END]
        self.assert_unwanted(program, [(2, 3)], "read own", (2, 3), [[3, 4]])
        self.assert_unwanted(program, [(3, 4)], "read read", (3, 4), [[4]])
        program = [COPY, RECKON, SAY, END]
        self.assert_unwanted(program, [(-1, 0)], "read", (-1, 0), [[0]])

    def test_of_the_reckoning_that_was_asked_about(self):
        program = [("reckon", "z", "-", "x", "y"), ("reckon", "z", "-", "y", "x"), END]
        self.assert_unwanted(program, [(0, 1)], "own", (0, 1), [[1, 2]], 0)
        self.assert_let_by(program, [(0, 1)], "own", 1)

    def test_round_and_round(self):
        program = [SAY, RECKON, ("part", "c", 1), ("part", "d", 0), END]
        self.assert_unwanted(program, [(-1, 0), (1, 2)], "read", (1, 2), [[2, 3, 4]])
        self.assert_let_by(program, [(-1, 0), (0, 1), (2, 1), (3, 0)], "read")


class Empty(Case):
    def test_from_the_begin_on(self):
        self.assert_empty([RECKON, END], [], "read", 0, [[0]])
        self.assert_empty([SAY, RECKON, SAY, RECKON, END], [], "read read", 1, [[0, 1]])
        self.assert_empty([SAY, RECKON, SAY, RECKON, END], [], "own read", 3, [[0, 1, 2, 3]])
        self.assert_empty([SAY, RECKON, SAY, RECKON, END], [(1, 2)], "read read", 1, [[0, 1]])

    def test_behind_a_row_that_changes_it(self):
        self.assert_empty([SAY, COPY, SAY, RECKON, END], [], "read", 3, [[0, 1, 2, 3]])
        self.assert_empty([RECKON, COPY, RECKON, END], [(-1, 0)], "read read", 2, [[0, 1, 2]])
        self.assert_empty([RECKON, COPY, RECKON, END], [], "keep read", 2, [[0, 1, 2]])
        self.assert_empty([BOTH, RECKON, END], [(-1, 0)], "read read", 1, [[0, 1]])

    def test_behind_a_keep_row_that_changes_it(self):
        self.assert_empty([SAY, BOTH, SAY, RECKON, END], [], "keep read", 3, [[0, 1, 2, 3]])

    def test_at_the_first_row_that_reads_so(self):
        program = [RECKON, COPY, RECKON, RECKON, END]
        self.assert_empty(program, [], "own read read", 2, [[0, 1, 2]])
        self.assert_empty(program, [], "own own read", 3, [[0, 1, 2, 3]])
        self.assert_empty(program, [], "read own read", 0, [[0]])

    def test_where_two_ways_meet_of_which_one_alone_has_put_it(self):
        program = [("part", "c", 3), RECKON, ("go", 4), COPY, RECKON, END]
        self.assert_empty(program, [], "keep read", 4, [[0, 3, 4]])
        self.assert_empty(program, [(3, 4)], "own read", 4, [[0, 1, 2, 4]])
        program = [("part", "c", 2), SAY, RECKON, END]
        self.assert_empty(program, [(0, 1)], "read", 2, [[0, 2]])
        self.assert_empty(program, [(0, 2)], "read", 2, [[0, 1, 2]])
        self.assert_empty(program, [(1, 2)], "read", 2, [[0, 2]])

    def test_a_row_that_reads_and_comes_several_times(self):
        # The first time row 1 reads what was kept ahead; the box is empty from the second time on.
        program = [SAY, BOTH, ("part", "c", 1), END]
        self.assert_empty(program, [(-1, 0)], "read", 1, [[0, 1, 2, 1]])
        self.assert_empty(program, [(0, 1)], "read", 1, [[0, 1, 2, 1]])
        program = [RECKON, COPY, ("part", "c", 0), END]
        self.assert_empty(program, [(-1, 0)], "read", 0, [[0, 1, 2, 0]])
        program = [BOTH, ("part", "c", 0), END]
        self.assert_empty(program, [(-1, 0)], "read", 0, [[0, 1, 0]])

    def test_a_way_that_must_go_round_to_come_with_an_empty_box(self):
        # Row 3 is come to with the box that row 0 kept, but for a way that goes by row 5 and back.
        program = [RECKON, SAY, ("part", "c", 5), RECKON, END, COPY, ("go", 1)]
        self.assert_empty(program, [], "keep read", 3, [[0, 1, 2, 5, 6, 1, 2, 3]])

    def test_a_way_round_a_kept_place(self):
        # Row 4 is come to by row 1, behind which it is kept, or by row 3, but ahead of this one the way is longer.
        program = [("part", "c", 2), ("go", 4), SAY, ("go", 4), RECKON, END]
        self.assert_empty(program, [(1, 4)], "read", 4, [[0, 2, 3, 4]])
        program = [("part", "c", 2), RECKON, SAY, RECKON, END]
        self.assert_empty(program, [], "keep read", 3, [[0, 2, 3]])

    def test_a_keep_row_on_the_way_ahead_of_the_change_is_allowed(self):
        program = [RECKON, COPY, SAY, RECKON, END]
        self.assert_empty(program, [], "keep read", 3, [[0, 1, 2, 3]])
        self.assert_let_by(program, [(1, 2)], "keep read")
        self.assert_let_by(program, [(2, 3)], "keep read")

    def test_row_0_with_others_that_lead_to_it(self):
        program = [RECKON, SAY, COPY, ("part", "c", 0), END]
        self.assert_empty(program, [(3, 0)], "read", 0, [[0]])
        self.assert_empty(program, [(-1, 0)], "read", 0, [[0, 1, 2, 3, 0]])
        self.assert_let_by(program, [(-1, 0), (3, 0)], "read")

    def test_of_the_reckoning_that_was_asked_about(self):
        program = [("reckon", "z", "-", "x", "y"), ("reckon", "z", "-", "y", "x"), ("reckon", "z", "-", "x", "y"), END]
        self.assert_empty(program, [], "own read", 2, [[0, 1, 2]], 0)
        self.assert_empty(program, [], "read", 1, [[0, 1]], 1)

    def test_sixty_rows_and_more_than_calls_may_go_deep(self):
        for size in (60, 3000):
            program = [SAY] * (size - 2) + [RECKON, END]
            self.assert_empty(program, [], "read", size - 2, [list(range(size - 1))])
            program = [COPY] + [SAY] * (size - 3) + [RECKON, END]
            self.assert_empty(program, [], "read", size - 2, [list(range(size - 1))])


class Refusals(Case):
    def test_each_is_a_hoist_error_and_neither_of_the_others(self):
        program = [SAY, RECKON, SAY, END]
        for asked in (((), ()), (((1, 2),), ((1, "own"),)), ((), ((1, "read"),))):
            refusal = self.refusal_of(program, asked)
            self.assertIsInstance(refusal, HoistError)
            self.assertIsInstance(refusal, ValueError)
            self.assertNotIsInstance(refusal, NoText)
            self.assertNotIsInstance(refusal, NoProgram)


if __name__ == "__main__":
    unittest.main()
