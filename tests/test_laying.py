"""Points 27, 28 and 29, and what 2 says of programs that were laid; interface laying: laid and moved."""

import itertools
import random
import unittest

from lazyhoist.errors import NoPaper
from lazyhoist.laying import laid, moved
from lazyhoist.papers import paper, still
from lazyhoist.programs import check, places, reckonings
from lazyhoist.rows import SIGNS, reckoning_of
from lazyhoist.runs import run
from lazyhoist.wants import wanted
from tests.allpapers import is_empty_way, paper_by_words
from tests.allways import is_unwanted_way
from tests.lays import assert_laid, assert_same_run, boxes_in, names_in
from tests.samples import BOTH, COPY, END, RECKON, SAY, shapes

# All choices of up to four parts, one behind another.
CHOICES = [list(some) for size in range(5) for some in itertools.product((0, 1), repeat=size)]
OTHER = ("reckon", "w", "-", "x", "y")


class Case(unittest.TestCase):
    def assert_lays(self, program, *papers):
        """Lays in papers told by their kept places and the words of their hows, or None."""
        papers = [told and paper_by_words(program, told[0], told[1], k) for k, told in enumerate(papers)]
        told = laid(program, papers)
        assert_laid(self, program, papers, told, CHOICES)
        ended = 0
        for worths in itertools.product((0, 1, 2, 5), repeat=3):
            ended += assert_same_run(self, program, papers, told, dict(zip("xyc", worths)))
        self.assertGreater(ended, 0, program)
        return told


class Still(Case):
    def test_told_as_it_is(self):
        for name, program in shapes():
            before, count = list(program), len(reckonings(program))
            stills = [still(program, k) for k in range(count)]
            mixed = [None if k % 2 else told for k, told in enumerate(stills)]
            for papers in (stills, [None] * count, mixed):
                told = laid(program, papers)
                self.assertEqual(told, before, name)
                self.assertIs(type(told), list)
                self.assertIsNot(told, program)
                told.clear()
                self.assertEqual(program, before)

    def test_programs_without_reckonings(self):
        for program in ([END], [("go", 1), END], [COPY, ("part", "x", 0), END]):
            self.assertEqual(laid(program, []), program)
            self.assertEqual(moved(program), program)


class Hows(Case):
    def test_keep_and_read(self):
        told = self.assert_lays([SAY, RECKON, SAY, BOTH, END], ([], "keep read"))
        box = told[1][1]
        rows = [SAY, ("reckon", box, "+", "x", "y"), ("copy", "z", box), SAY, ("copy", "x", box), END]
        self.assertEqual(told, rows)

    def test_keep_alone(self):
        told = self.assert_lays([RECKON, END], ([], "keep"))
        box = told[0][1]
        self.assertEqual(told, [("reckon", box, "+", "x", "y"), ("copy", "z", box), END])

    def test_keep_where_it_changes_what_it_reckons(self):
        self.assert_lays([SAY, BOTH, ("say", "x"), BOTH, ("say", "x"), END], ([], "keep keep"))
        self.assert_lays([BOTH, ("say", "x"), RECKON, ("say", "z"), END], ([(0, 1)], "keep read"))

    def test_own(self):
        program = [SAY, RECKON, COPY, RECKON, END]
        self.assert_lays(program, ([(-1, 0)], "own own"))
        self.assert_lays(program, ([(2, 3)], "own read"))
        self.assert_lays(program, ([(2, 3)], "own own"))

    def test_a_row_that_others_lead_to(self):
        # Whatever leads to row 1 must come to the row that fills the box, not to the one behind it.
        program = [SAY, RECKON, RECKON, ("reckon", "c", "-", "c", 1), ("part", "c", 1), END]
        told = self.assert_lays(program, ([], "keep read"), None)
        self.assertEqual(told[5], ("part", "c", 1))


class Kept(Case):
    def test_ahead_of_the_run(self):
        told = self.assert_lays([RECKON, END], ([(-1, 0)], "read"))
        box = told[0][1]
        self.assertEqual(told, [("reckon", box, "+", "x", "y"), ("copy", "z", box), END])

    def test_ahead_of_the_run_alone_where_others_lead_to_row_0(self):
        program = [SAY, RECKON, ("reckon", "c", "-", "c", 1), ("part", "c", 0), END]
        self.assert_lays(program, ([(-1, 0)], "read"), None)
        self.assert_lays(program, ([(-1, 0)], "read"), ([(-1, 0), (3, 0)], "read"))
        self.assert_lays(program, ([(-1, 0), (3, 0)], "read"), None)

    def test_at_a_place_that_leads_back_to_row_0(self):
        program = [RECKON, ("reckon", "c", "-", "c", 1), ("part", "c", 0), END]
        self.assert_lays(program, ([(-1, 0)], "own"), ([(0, 1)], "read"))
        self.assert_lays(program, ([(-1, 0), (2, 0)], "read"), None)
        program = [("reckon", "x", "+", "x", 1), ("reckon", "c", "<", "x", 9), ("part", "c", 0), ("say", "x"), END]
        self.assert_lays(program, ([(-1, 0), (2, 0)], "read"), ([(0, 1)], "read"))

    def test_at_a_go_that_leads_back_to_row_0(self):
        program = [("part", "c", 4), RECKON, ("copy", "c", "z"), ("go", 0), RECKON, ("say", "z"), END]
        self.assert_lays(program, ([(-1, 0), (3, 0)], "read read"))
        self.assert_lays(program, ([(0, 1), (0, 4)], "read read"))

    def test_behind_a_part_on_either_side(self):
        program = [SAY, ("part", "c", 5), RECKON, ("say", "z"), END, SAY, RECKON, ("say", "z"), END]
        self.assert_lays(program, ([(1, 2)], "read own"))
        self.assert_lays(program, ([(1, 5)], "own read"))
        self.assert_lays(program, ([(1, 2), (1, 5)], "read read"))
        self.assert_lays(program, ([(0, 1), (1, 2), (1, 5), (5, 6)], "read keep"))

    def test_behind_a_part_back_and_a_part_to_its_own_row(self):
        program = [("part", "c", 0), RECKON, END]
        self.assert_lays(program, ([(0, 1), (0, 0)], "read"))
        self.assert_lays(program, ([(-1, 0), (0, 0)], "read"))
        program = [SAY, ("reckon", "c", "-", "c", 1), ("part", "c", 1), RECKON, ("say", "z"), END]
        self.assert_lays(program, None, ([(2, 3), (2, 1)], "read"))
        self.assert_lays(program, None, ([(-1, 0), (0, 1), (1, 2), (2, 3), (2, 1)], "read"))

    def test_behind_a_part_on_a_worth(self):
        for worth in (0, 1):
            program = [("part", worth, 3), RECKON, ("go", 4), COPY, RECKON, ("say", "z"), END]
            self.assert_lays(program, ([(3, 4)], "keep read"))
            self.assert_lays(program, ([(0, 1), (3, 4)], "read read"))

    def test_behind_a_part_over_one_row(self):
        # Where nothing stands between, the part's two followers must stay two.
        program = [("part", "c", 2), SAY, RECKON, END]
        for kept in ([(0, 2), (1, 2)], [(0, 1), (0, 2)], [(-1, 0), (0, 1), (0, 2), (1, 2)]):
            self.assert_lays(program, (kept, "read"))

    def test_behind_a_go(self):
        program = [("part", "c", 3), SAY, ("go", 4), COPY, RECKON, ("say", "z"), END]
        self.assert_lays(program, ([(2, 4), (3, 4)], "read"))
        self.assert_lays(program, ([(1, 2), (3, 4)], "read"))
        program = [("go", 2), END, RECKON, ("go", 1)]
        self.assert_lays(program, ([(0, 2)], "read"))
        self.assert_lays(program, ([(-1, 0), (0, 2)], "read"))

    def test_one_alone_of_several_that_lead_to_a_row(self):
        program = [("part", "c", 3), RECKON, ("go", 4), SAY, RECKON, ("say", "z"), END]
        self.assert_lays(program, ([(3, 4)], "keep read"))
        self.assert_lays(program, ([(0, 3)], "keep read"))
        program = [("part", "c", 2), RECKON, RECKON, ("say", "z"), END]
        self.assert_lays(program, ([(0, 2)], "keep read"))

    def test_on_a_ring(self):
        program = [SAY, RECKON, ("copy", "y", "z"), ("reckon", "c", "-", "c", 1), ("part", "c", 0), ("say", "y"), END]
        self.assert_lays(program, ([(0, 1)], "read"), None)
        self.assert_lays(program, ([(-1, 0), (0, 1)], "read"), None)
        self.assert_lays(program, None, ([(2, 3)], "read"))

    def test_ahead_of_an_end(self):
        # Nothing wants it there, so it is kept nowhere; but rows ahead of several ends are turned.
        program = [("part", "c", 3), RECKON, END, ("part", "y", 6), RECKON, END, COPY, RECKON, END]
        self.assert_lays(program, ([(0, 1), (3, 4), (6, 7)], "read read read"))

    def test_several_reckonings_at_one_place(self):
        program = [SAY, RECKON, OTHER, ("reckon", "v", "*", "x", "y"), COPY, RECKON, OTHER, ("say", "w"), END]
        ahead, behind = [(-1, 0)], [(4, 5)]
        self.assert_lays(program, (ahead, "read own"), (ahead, "read own"), (ahead, "read"))
        self.assert_lays(program, (ahead + behind, "read read"), (ahead + behind, "read read"), (ahead, "read"))
        self.assert_lays(program, (behind, "keep read"), None, (ahead + [(0, 1)], "read"))

    def test_several_reckonings_on_either_side_of_parts(self):
        program = [("part", "c", 4), RECKON, OTHER, ("go", 6), OTHER, RECKON, ("say", "z"), ("say", "w"), END]
        for kept in ([(-1, 0)], [(0, 1), (0, 4)]):
            self.assert_lays(program, (kept, "read read"), (kept, "read read"))
        self.assert_lays(program, ([(0, 4)], "own read"), ([(0, 1)], "read own"))


class Boxes(Case):
    def test_none_for_still_papers(self):
        program = [RECKON, OTHER, RECKON, OTHER, END]
        told = self.assert_lays(program, ([], "keep read"), None)
        self.assertEqual(len(names_in(told) - names_in(program)), 1)
        told = self.assert_lays(program, ([], "own own"), ([], "keep read"))
        self.assertEqual(len(names_in(told) - names_in(program)), 1)
        self.assertEqual(len(names_in(moved([RECKON, OTHER, END])) - names_in(program)), 0)

    def test_names_that_stand_nowhere_in_the_program(self):
        # Whatever names come first, the program has them: as what is set, as an operand, in a say or a part.
        program = [RECKON, OTHER, RECKON, OTHER, ("say", "z"), ("part", "c", 7), ("say", "w"), END]
        papers = [paper(program, 0), paper(program, 1)]
        for count in range(12):
            fresh = sorted(names_in(laid(program, papers)) - names_in(program))
            self.assertEqual(len(fresh), 2)
            name = fresh[0]
            uses = [("copy", name, 1), ("copy", "z", name), ("say", name), ("reckon", "u", "*", name, 1)]
            program = program[:-1] + [uses[count % 4], END]
            papers = [paper(program, k) for k in range(len(reckonings(program)))]
            assert_laid(self, program, papers, laid(program, papers), CHOICES)
            for worths in ({}, {"x": 1, "y": 2, fresh[0]: 7, fresh[1]: 9}):
                self.assertTrue(assert_same_run(self, program, papers, laid(program, papers), worths))

    def test_a_name_in_a_part(self):
        program = [RECKON, RECKON, ("part", "c", 4), ("say", "z"), END]
        papers = [paper(program, 0)]
        box = boxes_in(program, papers, laid(program, papers))[0]
        program[2] = ("part", box, 4)
        told = laid(program, papers)
        assert_laid(self, program, papers, told, CHOICES)
        for worth in (0, 1):
            self.assertTrue(assert_same_run(self, program, papers, told, {"x": 3, box: worth}))

    def test_a_dozen_reckonings_and_more(self):
        rows = [("reckon", "z", s, "x", n) for s in SIGNS for n in (1, 2)]
        program = rows + [("part", "c", 18), COPY] + rows + [("say", "z"), END]
        papers = [paper(program, k) for k in range(16)]
        self.assertEqual(papers[3], (((17, 18),), ((3, "keep"), (21, "read"))))
        told = laid(program, papers)
        assert_laid(self, program, papers, told, CHOICES)
        self.assertEqual(len(names_in(told) - names_in(program)), 16)
        for worth in (0, 1):
            self.assertTrue(assert_same_run(self, program, papers, told, {"x": 5, "c": worth}))

    def test_names_of_eight_signs_at_most(self):
        program = [("reckon", f"box{n}", "+", "x", n) for n in range(30)]
        program += [("reckon", f"box{n + 30}", "+", "x", n) for n in range(29)] + [END]
        papers = [paper(program, k) for k in range(30)]
        told = laid(program, papers)
        assert_laid(self, program, papers, told, [[]])
        self.assertTrue(assert_same_run(self, program, papers, told, {"x": 4}))


class Large(Case):
    def test_as_many_rows_as_can_be(self):
        # Parts that lead back ahead of forty reckonings, each kept wherever it is wanted.
        rows = [("reckon", "z", s, "x", other) for s in SIGNS for other in ("x", "y", 1, 2, 3)]
        program = [("part", "c", max(n - 1, 0)) for n in range(19)] + rows + [END]
        self.assertEqual((len(program), len(reckonings(program))), (60, 40))
        wanted_at = wanted(program)
        papers = [
            (tuple(place for place in places(program) if wanted_at[place] >> k & 1), ((k + 19, "keep"),))
            for k in range(40)]
        told = laid(program, papers)
        self.assertGreater(len(told), 2000)
        choices = [[0] * 19, [1, 0, 1] + [0] * 19, [0] * 18 + [1, 0, 0]]
        assert_laid(self, program, papers, told, choices)
        again = moved(told)
        check(again)
        self.assertEqual(moved(again), again)

    def test_laid_again(self):
        for name, program in shapes():
            for count in range(3):
                papers = [paper(program, k, places(program)) for k in range(len(reckonings(program)))]
                told = laid(program, papers)
                check(told)
                program = told
            again = moved(program)
            check(again)
            self.assertEqual(moved(again), again, name)


class Refused(Case):
    PROGRAM = [SAY, RECKON, OTHER, COPY, RECKON, OTHER, END]

    def refusal_of(self, papers):
        program = list(self.PROGRAM)
        with self.assertRaises(NoPaper) as taken:
            laid(program, papers)
        self.assertEqual(program, self.PROGRAM)
        return taken.exception

    def test_by_its_form(self):
        for wrong in (
            ((), ()), ((), ((1, "own"),)), (((0, 0),), ((1, "own"), (4, "own"))), ((), ((4, "own"), (1, "own"))),
            (((0, 1), (0, 1)), ((1, "own"), (4, "own"))), ((), ((1, "own"), (4, ""))),
        ):
            for other in (None, paper(self.PROGRAM, 1)):
                refusal = self.refusal_of([wrong, other])
                self.assertEqual((refusal.word, refusal.at, refusal.way), ("form", None, None))

    def test_where_it_is_not_wanted(self):
        wrong = paper_by_words(self.PROGRAM, [(0, 1), (1, 2), (2, 3)], "read own")
        refusal = self.refusal_of([wrong, None])
        self.assertEqual((refusal.word, refusal.at), ("unwanted", (1, 2)))
        self.assertTrue(is_unwanted_way(self.PROGRAM, 0, (1, 2), refusal.way))

    def test_where_the_box_is_empty(self):
        wrong = paper_by_words(self.PROGRAM, [], "keep read", 1)
        refusal = self.refusal_of([None, wrong])
        self.assertEqual((refusal.word, refusal.at), ("empty", 5))
        self.assertTrue(is_empty_way(self.PROGRAM, 1, wrong, 5, refusal.way))

    def test_the_first_one_by_its_number(self):
        form, empty = ((), ()), paper_by_words(self.PROGRAM, [], "read own")
        other_empty = paper_by_words(self.PROGRAM, [], "own read", 1)
        other_unwanted = paper_by_words(self.PROGRAM, [(-1, 0), (5, 6)], "read own", 1)
        for papers, word, at in (
            ([empty, form], "empty", 1), ([form, other_empty], "form", None), ([empty, other_unwanted], "empty", 1),
            ([None, other_unwanted], "unwanted", (5, 6)), ([still(self.PROGRAM, 0), other_empty], "empty", 5),
            ([paper(self.PROGRAM, 0), form], "form", None),
        ):
            refusal = self.refusal_of(papers)
            self.assertEqual((refusal.word, refusal.at), (word, at))


class Moved(Case):
    def test_the_last_papers_laid_in(self):
        for name, program in shapes():
            papers = [paper(program, k) for k in range(len(reckonings(program)))]
            self.assertEqual(moved(program), laid(program, papers), name)
            choices = [[0] * 6, [1] * 6, [0, 1] * 3, [1, 0, 0, 1, 1, 0], [1, 1, 0, 0]]
            assert_laid(self, program, papers, moved(program), choices)

    def test_written_out(self):
        told = moved([("part", "c", 3), RECKON, ("go", 4), COPY, RECKON, ("say", "z"), END])
        self.assertEqual(sum(reckoning_of(row) is not None for row in told), 2)
        self.assertEqual(run(told, {"c": 1, "x": 5, "y": 2})[:2], ("end", [3]))
        self.assertEqual(run(told, {"c": 0, "x": 5, "y": 2})[:2], ("end", [7]))

    def test_nothing_to_move(self):
        for program in (
            [RECKON, END], [SAY, BOTH, BOTH, END], [("part", "c", 3), RECKON, END, RECKON, END],
            [RECKON, COPY, RECKON, END], [SAY, ("part", "c", 0), RECKON, END],
        ):
            told = moved(program)
            self.assertEqual(told, program)
            self.assertIsNot(told, program)

    def test_moved_again_it_is_as_it_is(self):
        for name, program in shapes():
            told = moved(program)
            self.assertEqual(moved(told), told, name)
            for k in range(len(reckonings(told))):
                self.assertEqual(paper(told, k), still(told, k), name)

    def test_runs(self):
        source = random.Random(28)
        for name, program in shapes():
            papers = [paper(program, k) for k in range(len(reckonings(program)))]
            for count in range(20):
                names = {name: source.choice((0, 0, 1, 2, 3, 2 ** 64 - 1)) for name in sorted(names_in(program))}
                assert_same_run(self, program, papers, moved(program), names)


class Worths(Case):
    """Point 28 where what is reckoned hangs on when it is done."""

    def test_an_operand_is_set_between(self):
        program = [RECKON, ("say", "z"), ("copy", "x", "z"), RECKON, ("say", "z"), ("reckon", "y", "+", "x", "y"), END]
        self.assert_lays(program, ([(2, 3)], "keep keep read"))
        self.assert_lays(program, ([(-1, 0), (2, 3)], "read read read"))

    def test_x_becomes_x_and_y_on_a_ring(self):
        program = [SAY, BOTH, ("say", "x"), ("reckon", "c", "-", "c", 1), ("part", "c", 1), ("say", "x"), END]
        for papers in ([((), ((1, "keep"),)), None], [(((0, 1), (4, 1)), ((1, "read"),)), None]):
            told = laid(program, papers)
            assert_laid(self, program, papers, told, CHOICES)
            for c in range(1, 9):
                self.assertTrue(assert_same_run(self, program, papers, told, {"x": 1, "y": 3, "c": c}))

    def test_read_and_changed_on_a_ring(self):
        # Row 0 reads what was kept ahead of it, each time round anew, and changes it.
        program = [BOTH, ("say", "x"), RECKON, ("reckon", "c", "-", "c", 1), ("part", "c", 0), ("say", "z"), END]
        papers = [paper(program, 0), paper(program, 1)]
        self.assertEqual(papers[0][1], ((0, "read"), (2, "keep")))
        told = laid(program, papers)
        for c in range(1, 9):
            self.assertTrue(assert_same_run(self, program, papers, told, {"x": 1, "y": 3, "c": c}))


if __name__ == "__main__":
    unittest.main()
