"""Point 16, interface firsts: firsts."""

import unittest

from lazyhoist.firsts import firsts
from lazyhoist.programs import places
from tests.allways import places_with
from tests.samples import BOTH, COPY, END, RECKON, SAY, shapes


class Firsts(unittest.TestCase):
    def assert_firsts(self, program, told, k=0):
        self.assertEqual(places_with(firsts, program, k), told)

    def test_ahead_of_the_run(self):
        self.assert_firsts([RECKON, END], [(-1, 0)])
        self.assert_firsts([SAY, SAY, RECKON, END], [(-1, 0)])
        self.assert_firsts([SAY, ("part", "c", 0), RECKON, END], [(-1, 0)])
        self.assert_firsts([("part", "c", 3), RECKON, END, RECKON, END], [(-1, 0)])

    def test_behind_a_row_that_changes_it(self):
        self.assert_firsts([SAY, COPY, SAY, RECKON, END], [(1, 2)])
        self.assert_firsts([RECKON, COPY, SAY, RECKON, END], [(-1, 0), (1, 2)])
        self.assert_firsts([("reckon", "y", "*", "y", 2), RECKON, END], [(0, 1)], 1)

    def test_not_behind_a_row_that_changes_it_where_it_is_not_wanted(self):
        self.assert_firsts([COPY, COPY, RECKON, END], [(1, 2)])
        self.assert_firsts([RECKON, COPY, END], [(-1, 0)])

    def test_behind_a_part_of_whose_followers_one_alone_wants_it(self):
        self.assert_firsts([("part", "c", 3), RECKON, END, SAY, END], [(0, 1)])
        self.assert_firsts([SAY, ("part", "c", 4), SAY, END, SAY, RECKON, END], [(1, 4)])

    def test_on_both_sides_of_a_part_where_it_changes_behind_one(self):
        self.assert_firsts([("part", "c", 3), RECKON, END, COPY, RECKON, END], [(0, 1), (3, 4)])

    def test_none_behind_a_row_that_reckons_it_and_does_not_change_it(self):
        self.assert_firsts([RECKON, RECKON, END], [(-1, 0)])
        self.assert_firsts([RECKON, SAY, RECKON, END], [(-1, 0)])
        self.assert_firsts([RECKON, ("part", "c", 4), RECKON, END, SAY, END], [(-1, 0)])

    def test_behind_a_row_that_reckons_it_and_changes_it(self):
        self.assert_firsts([BOTH, RECKON, END], [(-1, 0), (0, 1)])
        self.assert_firsts([BOTH, BOTH, SAY, END], [(-1, 0), (0, 1)])
        self.assert_firsts([BOTH, SAY, END], [(-1, 0)])

    def test_none_where_it_is_standing(self):
        # It is wanted behind the part on one side alone, but it stands there already.
        self.assert_firsts([RECKON, SAY, ("part", "c", 5), RECKON, END, SAY, END], [(-1, 0)])
        self.assert_firsts([COPY, RECKON, ("part", "c", 5), RECKON, END, END], [(0, 1)])

    def test_where_ways_meet(self):
        # Of the two ways that meet at row 5 one alone has it standing.
        program = [("part", "c", 3), RECKON, ("go", 5), COPY, SAY, RECKON, END]
        self.assert_firsts(program, [(0, 1), (3, 4)])
        program = [("part", "c", 3), RECKON, ("go", 4), SAY, RECKON, END]
        self.assert_firsts(program, [(-1, 0)])

    def test_a_way_that_leads_back(self):
        self.assert_firsts([COPY, SAY, RECKON, ("part", "c", 1), END], [(0, 1)])
        self.assert_firsts([RECKON, COPY, ("part", "c", 0), END], [(-1, 0), (2, 0)])
        self.assert_firsts([SAY, RECKON, COPY, ("part", "c", 0), END], [(-1, 0), (3, 0)])
        self.assert_firsts([SAY, BOTH, ("part", "c", 0), END], [(-1, 0), (2, 0)])

    def test_back_to_row_0_where_it_stands(self):
        self.assert_firsts([SAY, RECKON, ("part", "c", 0), END], [(-1, 0)])

    def test_a_part_to_its_own_row(self):
        self.assert_firsts([("part", "c", 0), RECKON, END], [(-1, 0)])
        self.assert_firsts([COPY, ("part", "c", 1), RECKON, END], [(0, 1)])

    def test_where_each_way_has_its_own(self):
        self.assert_firsts([("part", "c", 4), COPY, RECKON, ("go", 5), RECKON, RECKON, END], [(0, 4), (1, 2)])

    def test_bits_by_the_numbers_of_the_reckonings(self):
        program = [("reckon", "z", "+", "x", n) for n in range(13)] + [COPY]
        program += [("reckon", "z", "+", "x", n) for n in range(12, 6, -1)] + [("reckon", "z", "-", "z", 1), END]
        told = {place: 0 for place in places(program)}
        told[-1, 0] = 2 ** 13 - 1
        told[13, 14] = 2 ** 13 - 2 ** 7
        told[19, 20] = 1 << 13
        self.assertEqual(firsts(program), told)

    def test_order_and_sign_part_them(self):
        program = [
            ("part", "c", 3), ("reckon", "z", "-", "x", "y"), END,
            ("reckon", "z", "-", "y", "x"), ("reckon", "z", "+", "x", "y"), END,
        ]
        self.assertEqual(firsts(program), {(-1, 0): 0, (0, 1): 1, (0, 3): 6, (1, 2): 0, (3, 4): 0, (4, 5): 0})

    def test_without_reckonings(self):
        self.assertEqual(firsts([END]), {(-1, 0): 0})
        self.assertEqual(firsts([SAY, ("part", "a", 0), END]), {(-1, 0): 0, (0, 1): 0, (1, 2): 0, (1, 0): 0})

    def test_just_the_places(self):
        for name, program in shapes():
            self.assertEqual(set(firsts(program)), set(places(program)), name)


if __name__ == "__main__":
    unittest.main()
