"""Points 12 and 13, interface wants: wanted and unwanted."""

import unittest

from lazyhoist.programs import check, places, reckonings
from lazyhoist.wants import unwanted, wanted
from tests.allways import is_unwanted_way, places_with, ways_from
from tests.samples import BOTH, COPY, END, RECKON, SAY, shapes


class Case(unittest.TestCase):
    def places_with(self, program, k=0):
        return places_with(wanted, program, k)

    def assert_not_wanted(self, program, place, ways, k=0):
        """One of the ways is told, and these are all that may be."""
        check(program)
        self.assertIn(unwanted(program, k, place), ways)
        may_be = ways_from(program, place[1], len(program))
        self.assertCountEqual([way for way in may_be if is_unwanted_way(program, k, place, way)], ways)


class Wanted(Case):
    def test_straight(self):
        self.assertEqual(self.places_with([SAY, RECKON, SAY, END]), [(-1, 0), (0, 1)])
        self.assertEqual(self.places_with([RECKON, END]), [(-1, 0)])
        self.assertEqual(self.places_with([RECKON, SAY, RECKON, END]), [(-1, 0), (0, 1), (1, 2)])

    def test_a_row_that_reckons_and_changes_it(self):
        self.assertEqual(self.places_with([SAY, BOTH, SAY, END]), [(-1, 0), (0, 1)])
        self.assertEqual(self.places_with([BOTH, BOTH, END]), [(-1, 0), (0, 1)])
        self.assertEqual(self.places_with([BOTH, SAY, RECKON, END]), [(-1, 0), (0, 1), (1, 2)])

    def test_a_row_that_changes_it_ahead(self):
        self.assertEqual(self.places_with([SAY, COPY, SAY, RECKON, END]), [(1, 2), (2, 3)])
        self.assertEqual(self.places_with([COPY, RECKON, END]), [(0, 1)])
        self.assertEqual(self.places_with([("reckon", "y", "*", "y", 2), RECKON, END], 1), [(0, 1)])

    def test_a_copy_row_that_sets_an_operand(self):
        for name, told in (("x", [(1, 2)]), ("y", [(1, 2)]), ("z", [(-1, 0), (0, 1), (1, 2)])):
            for operand in ("x", "y", 5):
                self.assertEqual(self.places_with([SAY, ("copy", name, operand), RECKON, END]), told)

    def test_one_side_of_a_part(self):
        program = [("part", "c", 3), RECKON, END, SAY, END]
        self.assertEqual(self.places_with(program), [(0, 1)])
        program = [SAY, ("part", "c", 3), END, SAY, RECKON, END]
        self.assertEqual(self.places_with(program), [(1, 3), (3, 4)])

    def test_both_sides_of_a_part(self):
        program = [SAY, ("part", "c", 4), RECKON, END, SAY, RECKON, END]
        self.assertEqual(self.places_with(program), [(-1, 0), (0, 1), (1, 2), (1, 4), (4, 5)])

    def test_both_sides_but_changed_on_one(self):
        program = [("part", "c", 3), RECKON, END, COPY, RECKON, END]
        self.assertEqual(self.places_with(program), [(0, 1), (3, 4)])

    def test_a_part_on_a_worth_leads_both_ways(self):
        for worth in (0, 1):
            self.assertEqual(self.places_with([("part", worth, 3), RECKON, END, SAY, END]), [(0, 1)])

    def test_behind_where_ways_meet(self):
        program = [("part", "c", 3), SAY, ("go", 4), SAY, RECKON, END]
        self.assertEqual(self.places_with(program), places(program)[:-1])

    def test_round_and_round_that_leads_on_to_it(self):
        program = [SAY, ("part", "c", 0), RECKON, END]
        self.assertEqual(self.places_with(program), [(-1, 0), (0, 1), (1, 2), (1, 0)])
        program = [("part", "c", 0), RECKON, END]
        self.assertEqual(self.places_with(program), [(-1, 0), (0, 1), (0, 0)])

    def test_round_and_round_that_leads_on_to_an_end(self):
        program = [SAY, ("part", "c", 0), END]
        self.assertEqual(wanted(program), {(-1, 0): 0, (0, 1): 0, (1, 2): 0, (1, 0): 0})
        program = [("part", "d", 5), SAY, ("part", "c", 1), RECKON, END, SAY, ("part", "c", 5), END]
        self.assertEqual(self.places_with(program), [(0, 1), (1, 2), (2, 3), (2, 1)])

    def test_round_and_round_that_reckons_and_changes(self):
        program = [RECKON, COPY, ("part", "c", 0), END]
        self.assertEqual(self.places_with(program), [(-1, 0), (2, 0)])
        program = [COPY, RECKON, ("part", "c", 0), END]
        self.assertEqual(self.places_with(program), [(0, 1)])

    def test_nothing_but_an_end_behind_it(self):
        for program in ([RECKON, END], [BOTH, END], [RECKON, ("go", 2), END], [RECKON, SAY, SAY, END]):
            self.assertEqual(self.places_with(program), [(-1, 0)])

    def test_order_and_sign_part_them(self):
        program = [
            ("part", "c", 3), ("reckon", "z", "-", "x", "y"), END,
            ("reckon", "z", "-", "y", "x"), ("reckon", "z", "+", "x", "y"), END,
        ]
        self.assertEqual(reckonings(program), [("-", "x", "y"), ("-", "y", "x"), ("+", "x", "y")])
        self.assertEqual(wanted(program), {(-1, 0): 0, (0, 1): 1, (0, 3): 6, (1, 2): 0, (3, 4): 4, (4, 5): 0})

    def test_operands_that_are_worths_are_never_changed(self):
        program = [("copy", "x", 1), ("reckon", "x", "+", 1, 2), ("copy", "y", 1), ("reckon", "y", "+", 1, 2), END]
        self.assertEqual(self.places_with(program), [(-1, 0), (0, 1), (1, 2), (2, 3)])

    def test_bits_by_the_numbers_of_the_reckonings(self):
        rows = [("reckon", "z", "+", "x", n) for n in range(14)]
        program = rows + [END]
        every = 2 ** 14 - 1
        told = {(n - 1, n): every - (2 ** n - 1) for n in range(15)}
        self.assertEqual(wanted(program), told)
        program = [("part", "c", 15)] + rows + rows[5:6] + [("reckon", "x", "+", "x", 3), END]
        told = wanted(program)
        self.assertEqual(told[-1, 0], 1 << 5 | 1 << 3)
        self.assertEqual(told[0, 1], every)
        self.assertEqual(told[0, 15], 1 << 5 | 1 << 3)
        self.assertEqual(told[15, 16], 1 << 3)

    def test_without_reckonings(self):
        self.assertEqual(wanted([END]), {(-1, 0): 0})
        self.assertEqual(wanted([("go", 1), END]), {(-1, 0): 0, (0, 1): 0})
        self.assertEqual(wanted([COPY, ("part", "x", 0), END]), {(-1, 0): 0, (0, 1): 0, (1, 2): 0, (1, 0): 0})

    def test_others_lead_to_row_0(self):
        program = [("go", 1), RECKON, ("part", "c", 0), END]
        self.assertEqual(self.places_with(program), [(-1, 0), (0, 1), (2, 0)])

    def test_a_go_as_the_last_row(self):
        program = [("go", 2), END, SAY, ("go", 5), ("go", 1), RECKON, ("go", 4)]
        self.assertEqual(self.places_with(program), [(-1, 0), (0, 2), (2, 3), (3, 5)])

    def test_just_the_places(self):
        for name, program in shapes():
            self.assertEqual(set(wanted(program)), set(places(program)), name)


class Unwanted(Case):
    def test_none_where_it_is_wanted(self):
        self.assertIsNone(unwanted([RECKON, END], 0, (-1, 0)))
        self.assertIsNone(unwanted([BOTH, END], 0, (-1, 0)))
        self.assertIsNone(unwanted([SAY, ("part", "c", 0), RECKON, END], 0, (1, 0)))

    def test_ahead_of_the_run(self):
        self.assert_not_wanted([SAY, COPY, RECKON, END], (-1, 0), [[0, 1]])
        self.assert_not_wanted([("part", "c", 3), RECKON, END, SAY, END], (-1, 0), [[0, 3, 4]])
        self.assert_not_wanted([COPY, RECKON, END], (-1, 0), [[0]])

    def test_at_an_end(self):
        self.assert_not_wanted([RECKON, END], (0, 1), [[1]])
        self.assert_not_wanted([("part", "c", 2), END, RECKON, END], (0, 1), [[1]])
        self.assert_not_wanted([("part", "c", 2), END, RECKON, END], (2, 3), [[3]])

    def test_at_a_row_that_changes_it_at_once(self):
        self.assert_not_wanted([SAY, COPY, RECKON, END], (0, 1), [[1]])
        self.assert_not_wanted([SAY, ("reckon", "y", "*", "y", 2), RECKON, END], (0, 1), [[1]], 1)

    def test_not_through_a_row_that_reckons_it(self):
        program = [("part", "c", 3), RECKON, END, SAY, ("part", "c", 1), COPY, RECKON, END]
        self.assert_not_wanted(program, (0, 3), [[3, 4, 5]])
        self.assert_not_wanted(program, (-1, 0), [[0, 3, 4, 5]])
        self.assertIsNone(unwanted(program, 0, (4, 1)))

    def test_round_and_round(self):
        program = [SAY, ("part", "c", 0), ("part", "d", 4), END, RECKON, END]
        self.assert_not_wanted(program, (1, 0), [[0, 1, 2, 3]])
        self.assert_not_wanted(program, (-1, 0), [[0, 1, 2, 3]])

    def test_a_row_that_changes_it_may_be_passed_or_not(self):
        program = [COPY, ("part", "c", 3), END, RECKON, END]
        self.assert_not_wanted(program, (-1, 0), [[0], [0, 1, 2]])

    def test_of_the_reckoning_that_was_asked_about(self):
        program = [
            ("part", "c", 3), ("reckon", "z", "-", "x", "y"), END,
            ("reckon", "z", "-", "y", "x"), ("reckon", "z", "+", "x", "y"), END,
        ]
        self.assert_not_wanted(program, (-1, 0), [[0, 3, 4, 5]], 0)
        self.assert_not_wanted(program, (-1, 0), [[0, 1, 2]], 1)
        self.assert_not_wanted(program, (-1, 0), [[0, 1, 2]], 2)
        self.assert_not_wanted(program, (0, 1), [[1, 2]], 1)
        self.assertIsNone(unwanted(program, 0, (0, 1)))
        self.assertIsNone(unwanted(program, 1, (0, 3)))
        self.assertIsNone(unwanted(program, 2, (0, 3)))
        self.assert_not_wanted(program, (3, 4), [[4, 5]], 1)


if __name__ == "__main__":
    unittest.main()
