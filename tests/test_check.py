"""Point 6, interface programs: check."""

import itertools
import random
import unittest

from lazyhoist.errors import HoistError, NoProgram
from lazyhoist.programs import check

END = ("end",)
SAY = ("say", "a")


def refused(rows):
    """The refusal's word and number, or None where the list is let by."""
    try:
        told = check(rows)
    except NoProgram as refusal:
        return (refusal.word, refusal.at)
    if told is not None:
        raise AssertionError("check told something else than None")
    return None


def targets(row):
    return row[-1:] if row[0] in ("go", "part") else ()


def behind(rows, n):
    row = rows[n]
    if row == END:
        return []
    return ([] if row[0] == "go" else [n + 1]) + list(targets(row))


def expected(rows):
    """What point 6 asks of rows that are all rows, told slowly from its words."""
    size = len(rows)
    for n, row in enumerate(rows):
        for to in targets(row):
            if to >= size or (row[0] == "part" and to == n + 1):
                return ("row", n)
    if size == 0 or rows[-1][0] not in ("go", "end"):
        return ("row", max(size - 1, 0))
    leads = [[n == m or m in behind(rows, n) for m in range(size)] for n in range(size)]
    for k, n, m in itertools.product(range(size), repeat=3):
        leads[n][m] = leads[n][m] or (leads[n][k] and leads[k][m])
    for n in range(size):
        if not leads[0][n]:
            return ("apart", n)
    for n in range(size):
        if not any(leads[n][m] and rows[m] == END for m in range(size)):
            return ("endless", n)
    return None


class LetBy(unittest.TestCase):
    def test_programs(self):
        programs = (
            [END],
            [SAY, END],
            [("reckon", "x", "+", "a", 1), ("copy", "y", "x"), ("say", "y"), ("part", "y", 0), END],
            [("go", 1), END],
            [("part", "a", 0), END],
            [("part", "a", 2), END, END],
            [("part", "a", 3), SAY, END, ("go", 1)],
            [("go", 2), END, ("go", 1)],
            [SAY, ("part", "a", 4), SAY, ("go", 0), END],
        )
        for program in programs:
            with self.subTest(program=program):
                self.assertIsNone(check(program))

    def test_a_part_leads_both_ways_whatever_it_asks(self):
        for worth in (0, 1, 2 ** 64 - 1):
            self.assertIsNone(check([("part", worth, 2), END, END]))
            self.assertEqual(refused([("part", worth, 2), END, ("go", 2)]), ("endless", 2))
            self.assertEqual(refused([("part", worth, 2), ("go", 1), END]), ("endless", 1))


class Row(unittest.TestCase):
    def test_no_things_at_all(self):
        self.assertEqual(refused([]), ("row", 0))

    def test_a_thing_that_is_no_row(self):
        things = (
            None, True, 0, 1.5, "", "end", "say a", b"end", (), ("END",), ("end", 0), ("say",), ("say", -1),
            ("say", 2 ** 64), ("say", True), ("say", "A"), ("say", "end"), ("go", -1), ("go", True), ("go", False),
            ("go", "0"), ("part", "a", -1), ("part", "a", True), ("reckon", "x", "/", "a", "b"),
            ("reckon", "x", "", "a", "b"), ("reckon", "x", "+", "a"), ("copy", 1, "a"), ("copy", "x", None),
            frozenset(), object(), 10 ** 30,
        )
        for thing in things:
            with self.subTest(thing=thing):
                self.assertEqual(refused([thing]), ("row", 0))
                self.assertEqual(refused([thing, END]), ("row", 0))
                self.assertEqual(refused([SAY, thing, END]), ("row", 1))
                self.assertEqual(refused([SAY, SAY, thing]), ("row", 2))
                self.assertEqual(refused([SAY, thing, thing, thing]), ("row", 1))

    def test_a_to_that_is_no_rows_number(self):
        for beyond in (0, 1, 2, 60, 2 ** 64, 10 ** 40):
            self.assertEqual(refused([("go", 1 + beyond)]), ("row", 0))
            self.assertEqual(refused([SAY, ("go", 3 + beyond), END]), ("row", 1))
            self.assertEqual(refused([("part", "a", 3 + beyond), SAY, END]), ("row", 0))
            self.assertEqual(refused([SAY, ("part", "a", 3 + beyond), END]), ("row", 1))
            self.assertEqual(refused([SAY, END, ("part", "a", 3 + beyond)]), ("row", 2))
        self.assertIsNone(check([("part", "a", 2), END, END]))

    def test_a_part_to_the_next_row(self):
        self.assertEqual(refused([("part", "a", 1), END]), ("row", 0))
        self.assertEqual(refused([SAY, ("part", 0, 2), SAY, END]), ("row", 1))
        self.assertEqual(refused([("part", "a", 0), ("part", "a", 2), END]), ("row", 1))

    def test_a_part_to_itself_and_a_go_to_the_next_row_are_let_by(self):
        self.assertIsNone(check([("part", "a", 0), END]))
        self.assertIsNone(check([SAY, ("part", "a", 1), ("part", 1, 2), END]))
        self.assertIsNone(check([("go", 1), ("go", 2), END]))

    def test_a_last_row_that_is_neither_go_nor_end(self):
        for last in (SAY, ("copy", "x", 1), ("reckon", "x", "+", "a", "b"), ("part", "a", 0)):
            with self.subTest(last=last):
                self.assertEqual(refused([SAY, END, last]), ("row", 2))
                self.assertEqual(refused([SAY, last]), ("row", 1))
        self.assertEqual(refused([SAY]), ("row", 0))
        self.assertEqual(refused([("part", "a", 0)]), ("row", 0))

    def test_the_last_row_is_asked_behind_all_others(self):
        self.assertEqual(refused([("go", 9), SAY]), ("row", 0))
        self.assertEqual(refused([SAY, ("part", "a", 2), SAY]), ("row", 1))
        self.assertEqual(refused([SAY, None, SAY]), ("row", 1))


class Apart(unittest.TestCase):
    def test_a_row_that_no_way_leads_to(self):
        self.assertEqual(refused([END, END]), ("apart", 1))
        self.assertEqual(refused([("go", 2), SAY, END]), ("apart", 1))
        self.assertEqual(refused([SAY, ("go", 3), SAY, END, END]), ("apart", 2))
        self.assertEqual(refused([("part", "a", 3), END, SAY, END]), ("apart", 2))

    def test_rows_that_lead_to_one_another_only(self):
        self.assertEqual(refused([END, ("go", 1)]), ("apart", 1))
        self.assertEqual(refused([("go", 3), SAY, ("go", 1), END]), ("apart", 1))
        self.assertEqual(refused([SAY, END, ("part", "a", 2), ("go", 0)]), ("apart", 2))


class Endless(unittest.TestCase):
    def test_a_row_from_which_no_way_leads_to_an_end(self):
        self.assertEqual(refused([("go", 0)]), ("endless", 0))
        self.assertEqual(refused([SAY, SAY, ("go", 1)]), ("endless", 0))
        self.assertEqual(refused([("part", "a", 2), END, ("go", 2)]), ("endless", 2))
        self.assertEqual(refused([("part", "a", 3), SAY, END, SAY, ("part", "b", 3), ("go", 4)]), ("endless", 3))
        self.assertEqual(refused([("part", "a", 3), SAY, ("go", 1), END]), ("endless", 1))


class Order(unittest.TestCase):
    def test_row_ahead_of_apart_and_endless(self):
        self.assertEqual(refused([END, SAY, ("go", 9)]), ("row", 2))
        self.assertEqual(refused([END, END, SAY]), ("row", 2))
        self.assertEqual(refused([("go", 0), ("part", "a", 2), END]), ("row", 1))
        self.assertEqual(refused([("go", 0), None]), ("row", 1))
        self.assertEqual(refused([("go", 0), SAY]), ("row", 1))

    def test_apart_ahead_of_endless(self):
        self.assertEqual(refused([("go", 0), END]), ("apart", 1))
        self.assertEqual(refused([("part", "a", 3), ("go", 1), END, END]), ("apart", 2))
        self.assertEqual(refused([("go", 0), ("go", 1)]), ("apart", 1))

    def test_the_first_of_several(self):
        self.assertEqual(refused([SAY, ("go", 7), ("go", 8), None]), ("row", 1))
        self.assertEqual(refused([END, END, END]), ("apart", 1))
        self.assertEqual(refused([("part", "a", 3), ("go", 1), END, ("go", 3)]), ("apart", 2))
        self.assertEqual(refused([("part", "a", 3), ("part", "b", 4), ("go", 2), ("go", 3), END]), ("endless", 2))

    def test_it_is_a_hoist_error(self):
        with self.assertRaises(HoistError):
            check([])


class AllSmallOnes(unittest.TestCase):
    def compare(self, rows):
        self.assertEqual(refused(rows), expected(rows), rows)

    def test_all_lists_of_up_to_three_rows(self):
        for size in range(4):
            kinds = [SAY, END]
            for to in range(size + 1):
                kinds.extend([("go", to), ("part", "a", to)])
            for rows in itertools.product(kinds, repeat=size):
                self.compare(list(rows))

    def test_lists_of_four_to_nine_rows(self):
        source = random.Random(6)
        words = set()
        for count in range(3000):
            size = source.randint(4, 9)
            rows = []
            for n in range(size):
                to = source.randrange(size)
                kinds = [SAY, SAY, ("copy", "x", 1), ("part", "a", to if to != n + 1 else n), END, ("go", to)]
                rows.append(source.choice(kinds if n < size - 1 else kinds[-2:]))
            words.add((expected(rows) or ("none", 0))[0])
            self.compare(rows)
        self.assertEqual(words, {"none", "apart", "endless"})


class Long(unittest.TestCase):
    def test_sixty_rows_and_more(self):
        for size in (59, 60, 61, 62, 100, 600, 3600):
            with self.subTest(size=size):
                self.assertIsNone(check([SAY] * (size - 1) + [END]))
                self.assertEqual(refused([SAY] * size), ("row", size - 1))
                self.assertEqual(refused([SAY] * (size - 2) + [END, END]), ("apart", size - 1))
                self.assertEqual(refused([SAY] * (size - 1) + [("go", 0)]), ("endless", 0))
                self.assertEqual(refused([SAY] * (size - 2) + [("go", size), END]), ("row", size - 2))

    def test_ways_that_lead_backward(self):
        for size in (60, 61, 600):
            program = [("go", size - 1), END] + [("go", n - 1) for n in range(2, size)]
            with self.subTest(size=size):
                self.assertIsNone(check(program))
                program[size // 2] = ("go", size // 2)
                self.assertEqual(refused(program), ("apart", 1))

    def test_sixty_parts(self):
        program = [("part", "a", 59 - n if 59 - n != n + 1 else 0) for n in range(60)] + [END]
        self.assertEqual(len(program), 61)
        self.assertIsNone(check(program))


if __name__ == "__main__":
    unittest.main()
