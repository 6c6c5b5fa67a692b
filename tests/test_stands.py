"""Points 14 and 15, interface stands: standing and unstanding."""

import unittest

from lazyhoist.programs import check, places, reckonings
from lazyhoist.stands import standing, unstanding
from tests.allways import is_unstanding_way, places_with, ways_from
from tests.samples import BOTH, COPY, END, RECKON, SAY, shapes


class Case(unittest.TestCase):
    def places_with(self, program, k=0):
        return places_with(standing, program, k)

    def assert_not_standing(self, program, place, ways, k=0):
        """One of the ways is told, and these are all that may be."""
        check(program)
        self.assertIn(unstanding(program, k, place), ways)
        may_be = [way for n in range(len(program)) for way in ways_from(program, n, len(program))]
        self.assertCountEqual([way for way in may_be if is_unstanding_way(program, k, place, way)], ways)


class Standing(Case):
    def test_straight(self):
        self.assertEqual(self.places_with([SAY, RECKON, SAY, END]), [(1, 2), (2, 3)])
        self.assertEqual(self.places_with([RECKON, END]), [(0, 1)])

    def test_none_ahead_of_the_run(self):
        for name, program in shapes():
            self.assertEqual(standing(program)[-1, 0], 0, name)
        program = [RECKON, ("part", "c", 0), END]
        self.assertEqual(self.places_with(program), [(0, 1), (1, 2), (1, 0)])
        program = [("say", 1), RECKON, ("part", "c", 0), END]
        self.assertEqual(self.places_with(program), [(1, 2), (2, 3), (2, 0)])

    def test_not_behind_row_0_though_others_lead_to_it(self):
        program = [SAY, RECKON, ("part", "c", 0), ("go", 4), END]
        self.assertEqual(self.places_with(program), [(1, 2), (2, 3), (2, 0), (3, 4)])
        program = [("part", "c", 3), RECKON, ("go", 0), END]
        self.assertEqual(self.places_with(program), [(1, 2), (2, 0)])

    def test_a_row_that_reckons_and_then_changes_it(self):
        self.assertEqual(self.places_with([SAY, BOTH, SAY, END]), [])
        self.assertEqual(self.places_with([RECKON, BOTH, SAY, END]), [(0, 1)])
        self.assertEqual(self.places_with([BOTH, RECKON, SAY, END]), [(1, 2), (2, 3)])

    def test_a_row_that_changes_it(self):
        self.assertEqual(self.places_with([RECKON, SAY, COPY, SAY, END]), [(0, 1), (1, 2)])
        self.assertEqual(self.places_with([RECKON, ("reckon", "y", "*", "y", 2), END]), [(0, 1)])
        self.assertEqual(self.places_with([RECKON, ("copy", "z", "x"), END]), [(0, 1), (1, 2)])

    def test_reckoned_again_behind_a_row_that_changes_it(self):
        self.assertEqual(self.places_with([RECKON, COPY, SAY, RECKON, SAY, END]), [(0, 1), (3, 4), (4, 5)])

    def test_one_of_two_ways_that_meet(self):
        program = [("part", "c", 3), RECKON, ("go", 4), SAY, SAY, END]
        self.assertEqual(self.places_with(program), [(1, 2), (2, 4)])

    def test_both_of_two_ways_that_meet(self):
        program = [("part", "c", 3), RECKON, ("go", 5), SAY, RECKON, SAY, END]
        self.assertEqual(self.places_with(program), [(1, 2), (2, 5), (4, 5), (5, 6)])

    def test_both_but_one_changes_it_behind(self):
        program = [("part", "c", 3), RECKON, ("go", 5), RECKON, COPY, SAY, END]
        self.assertEqual(self.places_with(program), [(1, 2), (2, 5), (3, 4)])

    def test_ahead_of_a_part(self):
        program = [RECKON, ("part", "c", 3), SAY, COPY, END]
        self.assertEqual(self.places_with(program), [(0, 1), (1, 2), (1, 3), (2, 3)])

    def test_a_way_that_leads_back(self):
        program = [RECKON, SAY, ("part", "c", 1), END]
        self.assertEqual(self.places_with(program), places(program)[1:])
        program = [RECKON, SAY, COPY, ("part", "c", 1), END]
        self.assertEqual(self.places_with(program), [(0, 1)])
        program = [SAY, SAY, RECKON, ("part", "c", 1), END]
        self.assertEqual(self.places_with(program), [(2, 3), (3, 4), (3, 1)])

    def test_a_part_to_its_own_row(self):
        program = [RECKON, ("part", "c", 1), END]
        self.assertEqual(self.places_with(program), [(0, 1), (1, 2), (1, 1)])
        self.assertEqual(self.places_with([("part", "c", 0), RECKON, END]), [(1, 2)])

    def test_order_and_sign_part_them(self):
        program = [
            ("reckon", "z", "-", "x", "y"), ("reckon", "z", "-", "y", "x"), ("reckon", "y", "+", "z", "z"), END,
        ]
        self.assertEqual(reckonings(program), [("-", "x", "y"), ("-", "y", "x"), ("+", "z", "z")])
        self.assertEqual(standing(program), {(-1, 0): 0, (0, 1): 1, (1, 2): 3, (2, 3): 4})

    def test_operands_that_are_worths_are_never_changed(self):
        program = [("reckon", "x", "+", 1, 2), ("copy", "x", 1), ("copy", "y", 2), END]
        self.assertEqual(self.places_with(program), [(0, 1), (1, 2), (2, 3)])

    def test_bits_by_the_numbers_of_the_reckonings(self):
        program = [("reckon", "z", "+", "x", n) for n in range(14)] + [("reckon", "y", "-", "z", 1), COPY, END]
        told = {(n - 1, n): 2 ** n - 1 for n in range(16)}
        told[15, 16] = 1 << 14
        self.assertEqual(standing(program), told)

    def test_without_reckonings(self):
        self.assertEqual(standing([END]), {(-1, 0): 0})
        self.assertEqual(standing([SAY, ("part", "a", 0), END]), {(-1, 0): 0, (0, 1): 0, (1, 2): 0, (1, 0): 0})

    def test_just_the_places(self):
        for name, program in shapes():
            self.assertEqual(set(standing(program)), set(places(program)), name)


class Unstanding(Case):
    def test_ahead_of_the_run(self):
        for program in ([RECKON, END], [BOTH, END], [SAY, RECKON, ("part", "c", 0), END]):
            self.assertEqual(unstanding(program, 0, (-1, 0)), [])

    def test_none_where_it_is_standing(self):
        self.assertIsNone(unstanding([RECKON, END], 0, (0, 1)))
        self.assertIsNone(unstanding([SAY, RECKON, ("part", "c", 0), END], 0, (2, 0)))

    def test_where_the_row_is_row_0(self):
        self.assert_not_standing([SAY, RECKON, END], (0, 1), [[0]])
        self.assert_not_standing([("part", "c", 0), RECKON, END], (0, 0), [[0]])
        self.assert_not_standing([BOTH, END], (0, 1), [[0]])
        self.assert_not_standing([COPY, RECKON, END], (0, 1), [[0]])
        self.assertIsNone(unstanding([RECKON, ("part", "c", 0), END], 0, (0, 1)))

    def test_where_row_0_is_led_to_by_a_row_behind_which_it_is_standing(self):
        self.assert_not_standing([SAY, RECKON, ("part", "c", 0), END], (0, 1), [[0]])

    def test_where_the_row_itself_changes_it(self):
        self.assert_not_standing([RECKON, COPY, END], (1, 2), [[1]])
        self.assert_not_standing([RECKON, BOTH, END], (1, 2), [[1]])
        # From row 0 on would do, too, as long as no row behind the first reckons it.
        self.assert_not_standing([SAY, COPY, RECKON, END], (1, 2), [[1], [0, 1]])

    def test_from_a_row_that_changes_it(self):
        self.assert_not_standing([RECKON, COPY, SAY, SAY, END], (3, 4), [[1, 2, 3]])
        self.assert_not_standing([RECKON, BOTH, SAY, SAY, END], (3, 4), [[1, 2, 3]])

    def test_from_row_0(self):
        self.assert_not_standing([SAY, SAY, RECKON, END], (1, 2), [[0, 1]])
        program = [("part", "c", 3), RECKON, ("go", 4), SAY, SAY, RECKON, END]
        self.assert_not_standing(program, (4, 5), [[0, 3, 4]])

    def test_not_from_row_0_where_it_reckons_it(self):
        program = [RECKON, ("part", "c", 4), SAY, ("go", 5), COPY, SAY, END]
        self.assert_not_standing(program, (5, 6), [[4, 5]])
        self.assertIsNone(unstanding(program, 0, (3, 5)))

    def test_not_through_a_row_that_reckons_it(self):
        program = [("part", "c", 4), SAY, RECKON, ("go", 5), COPY, SAY, END]
        self.assert_not_standing(program, (5, 6), [[4, 5], [0, 4, 5]])
        self.assertIsNone(unstanding(program, 0, (2, 3)))
        self.assert_not_standing(program, (1, 2), [[0, 1]])

    def test_a_way_that_leads_back(self):
        program = [RECKON, SAY, COPY, ("part", "c", 1), END]
        self.assert_not_standing(program, (1, 2), [[2, 3, 1]])
        self.assert_not_standing(program, (3, 4), [[2, 3]])

    def test_of_the_reckoning_that_was_asked_about(self):
        program = [
            ("reckon", "z", "-", "x", "y"), ("reckon", "z", "-", "y", "x"), ("reckon", "y", "+", "z", "z"), END,
        ]
        self.assertIsNone(unstanding(program, 0, (1, 2)))
        self.assertIsNone(unstanding(program, 1, (1, 2)))
        self.assert_not_standing(program, (1, 2), [[1], [0, 1]], 2)
        self.assert_not_standing(program, (0, 1), [[0]], 1)
        self.assert_not_standing(program, (2, 3), [[2]], 0)
        self.assert_not_standing(program, (2, 3), [[2]], 1)
        self.assertIsNone(unstanding(program, 2, (2, 3)))


if __name__ == "__main__":
    unittest.main()
