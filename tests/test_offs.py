"""Point 18, interface offs: put_off."""

import random
import unittest

from lazyhoist.offs import put_off
from lazyhoist.programs import check, places, reckonings
from tests.samples import BOTH, COPY, END, RECKON, SAY, shapes

# Two ways that meet at row 4, on both of which nothing is done.
MEETING = (("part", "c", 3), SAY, ("go", 4), SAY, RECKON, END)
# A way that leads back to row 0.
BACK = (SAY, ("part", "c", 0), RECKON, END)


class Case(unittest.TestCase):
    def assert_off(self, program, told_places, told_rows, stops=None, k=0):
        program = list(program)
        check(program)
        self.assertEqual(put_off(program, k, stops), (told_places, told_rows))


class Straight(Case):
    def test_up_to_the_row_that_reckons_it(self):
        self.assert_off([RECKON, END], [(-1, 0)], [0])
        self.assert_off([SAY, SAY, RECKON, SAY, END], [(-1, 0), (0, 1), (1, 2)], [0, 1, 2])

    def test_not_behind_a_row_that_reckons_it(self):
        self.assert_off([RECKON, SAY, RECKON, END], [(-1, 0)], [0])
        self.assert_off([SAY, RECKON, RECKON, SAY, END], [(-1, 0), (0, 1)], [0, 1])

    def test_from_each_first_place(self):
        self.assert_off([RECKON, COPY, SAY, RECKON, END], [(-1, 0), (1, 2), (2, 3)], [0, 2, 3])
        self.assert_off([SAY, COPY, SAY, RECKON, END], [(1, 2), (2, 3)], [2, 3])

    def test_a_row_that_reckons_and_changes_it(self):
        self.assert_off([SAY, BOTH, SAY, END], [(-1, 0), (0, 1)], [0, 1])
        self.assert_off([BOTH, SAY, RECKON, END], [(-1, 0), (0, 1), (1, 2)], [0, 1, 2])
        self.assert_off([BOTH, BOTH, END], [(-1, 0), (0, 1)], [0, 1])

    def test_sixty_rows(self):
        program = [SAY] * 58 + [RECKON, END]
        self.assert_off(program, [(n - 1, n) for n in range(59)], list(range(59)))
        self.assert_off(program, [(n - 1, n) for n in range(31)], list(range(30)), [(29, 30)])


class Meeting(Case):
    def test_both_ways_put_off(self):
        self.assert_off(MEETING, [(-1, 0), (0, 1), (0, 3), (1, 2), (2, 4), (3, 4)], [0, 1, 2, 3, 4])

    def test_one_way_alone(self):
        # The way by row 1 has it standing where both meet.
        program = [("part", "c", 3), RECKON, ("go", 4), COPY, RECKON, END]
        self.assert_off(program, [(0, 1), (3, 4)], [1])
        program = [("part", "c", 3), RECKON, ("go", 4), SAY, RECKON, END]
        self.assert_off(program, [(-1, 0), (0, 1), (0, 3), (3, 4)], [0, 1, 3])

    def test_one_side_of_a_part_alone(self):
        self.assert_off([SAY, ("part", "c", 4), SAY, END, SAY, RECKON, END], [(1, 4), (4, 5)], [4, 5])

    def test_a_place_behind_a_row_that_reckons_it_leads_to_a_row_with_others(self):
        # Row 3 is led to by row 1, which is put off and reckons it, and by row 2, which is put off alone.
        program = [("part", "c", 2), RECKON, ("part", "d", 1), RECKON, END]
        check(program)
        self.assertEqual(put_off(program, 0), ([(-1, 0), (0, 1), (0, 2)], [0]))

    def test_several_ends(self):
        program = [("part", "a", 3), RECKON, END, ("part", "b", 6), RECKON, END, COPY, END]
        self.assert_off(program, [(0, 1), (3, 4)], [1, 4])


class Back(Case):
    def test_nothing_but_itself_speaks_against_it(self):
        self.assert_off(BACK, [(-1, 0), (0, 1), (1, 2), (1, 0)], [0, 1, 2])
        self.assert_off([COPY, SAY, ("part", "c", 1), RECKON, END], [(0, 1), (1, 2), (2, 3), (2, 1)], [1, 2, 3])
        program = [SAY, SAY, ("part", "c", 1), ("part", "d", 0), ("part", "e", 4), RECKON, END]
        self.assert_off(program, places(program)[:-1], [0, 1, 2, 3, 4, 5])

    def test_a_part_to_its_own_row(self):
        self.assert_off([("part", "c", 0), RECKON, END], [(-1, 0), (0, 1), (0, 0)], [0, 1])
        self.assert_off([COPY, ("part", "c", 1), RECKON, END], [(0, 1), (1, 2), (1, 1)], [1, 2])

    def test_from_a_row_that_reckons_it(self):
        self.assert_off([SAY, RECKON, ("part", "c", 0), END], [(-1, 0)], [])
        self.assert_off([RECKON, ("part", "c", 0), END], [(-1, 0)], [])
        self.assert_off([COPY, SAY, RECKON, ("part", "c", 1), END], [(0, 1)], [])

    def test_from_a_row_that_reckons_and_changes_it(self):
        self.assert_off([SAY, BOTH, ("part", "c", 0), END], [(-1, 0), (0, 1), (2, 0)], [0, 1])

    def test_row_0_with_a_place_that_is_not_put_off(self):
        # Behind row 2 it stands, so from there no place is put off; and row 0 is led to by it.
        program = [SAY, ("part", "x", 4), RECKON, ("go", 0), RECKON, END]
        self.assert_off(program, [(-1, 0)], [])

    def test_round_within_another(self):
        program = [
            ("copy", "i", 3), ("copy", "j", 2), RECKON, ("reckon", "j", "-", "j", 1), ("part", "j", 2),
            ("reckon", "i", "-", "i", 1), ("part", "i", 1), END,
        ]
        self.assert_off(program, [(-1, 0), (0, 1)], [0])
        self.assert_off(program, [(1, 2), (2, 3), (4, 2)], [2, 3], None, 1)
        told = [(0, 1), (1, 2), (2, 3), (3, 4), (4, 5), (4, 2), (6, 1)]
        self.assert_off(program, told, [1, 2, 3, 4, 5], None, 2)


class Stops(Case):
    def test_none_of_them(self):
        program = list(MEETING)
        told = put_off(program, 0)
        for stops in (None, [], ()):
            self.assertEqual(put_off(program, 0, stops), told)
            self.assertEqual(put_off(program, 0, stops=stops), told)

    def test_all_places(self):
        self.assert_off(MEETING, [(-1, 0)], [], places(list(MEETING)))
        self.assert_off(BACK, [(-1, 0)], [], places(list(BACK)))
        self.assert_off([RECKON, COPY, SAY, RECKON, END], [(-1, 0), (1, 2)], [], [(n - 1, n) for n in range(5)])

    def test_ahead_of_the_run(self):
        for program in ([RECKON, END], MEETING, BACK, [("part", "c", 0), RECKON, END]):
            self.assert_off(program, [(-1, 0)], [], [(-1, 0)])
        self.assert_off([SAY, COPY, SAY, RECKON, END], [(1, 2), (2, 3)], [2, 3], [(-1, 0)])
        self.assert_off([SAY, BOTH, ("part", "c", 0), END], [(-1, 0), (2, 0)], [], [(-1, 0)])

    def test_one_of_two_places_that_lead_to_a_row(self):
        every = [(-1, 0), (0, 1), (0, 3), (1, 2), (2, 4), (3, 4)]
        for stop in ((2, 4), (3, 4)):
            self.assert_off(MEETING, every, [0, 1, 2, 3], [stop])
        self.assert_off(MEETING, [(-1, 0), (0, 1), (0, 3), (1, 2), (2, 4)], [0, 1, 2], [(0, 3)])
        self.assert_off(MEETING, [(-1, 0), (0, 1), (0, 3), (3, 4)], [0, 3], [(0, 1)])
        self.assert_off(MEETING, [(-1, 0), (0, 1), (0, 3), (1, 2), (3, 4)], [0, 1, 3], [(1, 2)])

    def test_on_a_way_that_leads_back(self):
        # Each of them takes row 0 out in the end, as the way leads back to it.
        for stop in ((-1, 0), (0, 1), (1, 0)):
            self.assert_off(BACK, [(-1, 0)], [], [stop])
        self.assert_off(BACK, [(-1, 0), (0, 1), (1, 2), (1, 0)], [0, 1], [(1, 2)])

    def test_a_stop_that_stops_nothing(self):
        for stop in ((3, 4), (4, 5)):
            self.assert_off([SAY, SAY, RECKON, SAY, SAY, END], [(-1, 0), (0, 1), (1, 2)], [0, 1, 2], [stop])

    def test_any_order_and_twice(self):
        for name, program in shapes():
            source = random.Random(name)
            for k in range(len(reckonings(program))):
                stops = [place for place in places(program) if source.random() < 0.2]
                told = put_off(program, k, stops)
                self.assertEqual(put_off(program, k, stops[::-1]), told, name)
                self.assertEqual(put_off(program, k, tuple(stops)), told, name)
                self.assertEqual(put_off(program, k, stops + stops[:2] + stops[::-1]), told, name)
                source.shuffle(stops)
                self.assertEqual(put_off(program, k, stops), told, name)


class Kinds(Case):
    def test_a_tuple_of_two_lists(self):
        for name, program in shapes():
            for k in range(len(reckonings(program))):
                for stops in (None, places(program)):
                    told = put_off(program, k, stops)
                    self.assertEqual((type(told), len(told)), (tuple, 2), name)
                    self.assertEqual((type(told[0]), type(told[1])), (list, list), name)
                    self.assertEqual(told[0], [place for place in places(program) if place in told[0]], name)
                    self.assertEqual(told[1], sorted(set(told[1])), name)

    def test_of_the_reckoning_that_was_asked_about(self):
        program = [
            ("part", "c", 3), ("reckon", "z", "-", "x", "y"), END,
            ("reckon", "z", "-", "y", "x"), ("reckon", "z", "+", "x", "y"), END,
        ]
        self.assert_off(program, [(0, 1)], [1], None, 0)
        self.assert_off(program, [(0, 3)], [3], None, 1)
        self.assert_off(program, [(0, 3), (3, 4)], [3, 4], None, 2)

    def test_a_dozen_reckonings_and_more(self):
        program = [("reckon", "z", "+", "x", n) for n in range(14)] + [END]
        for k in range(14):
            self.assert_off(program, [(n - 1, n) for n in range(k + 1)], list(range(k + 1)), None, k)


if __name__ == "__main__":
    unittest.main()
