"""Point 1: nothing handed in is changed, all lists are new, nothing hangs on what was asked ahead."""

import copy
import unittest

from lazyhoist.errors import NoProgram
from lazyhoist.programs import check, followers, leading, places, reckonings
from lazyhoist.rows import changes, is_name, is_row, reckoning_of, sets
from tests.samples import EACH_KIND

# As long as EACH_KIND, so that what is kept by length alone would be told wrongly.
OTHER = (
    ("part", 1, 0),
    ("reckon", "y", "*", "y", "y"),
    ("part", "y", 8),
    ("copy", "x", "y"),
    ("say", 1),
    ("go", 7),
    ("end",),
    ("part", "x", 6),
    ("go", 6),
)
REFUSED = (
    ([], ("row", 0)),
    ([None], ("row", 0)),
    ([("say", "a"), ("go", 2)], ("row", 1)),
    ([("end",), ("end",)], ("apart", 1)),
    ([("part", "a", 2), ("end",), ("go", 2)], ("endless", 2)),
)


def asked(program):
    """All that the functions that give lists tell of a program, by question."""
    told = {"places": places(program), "reckonings": reckonings(program)}
    for n in range(len(program)):
        told["followers", n] = followers(program, n)
        told["leading", n] = leading(program, n)
    return told


def refusal_of(rows):
    try:
        check(rows)
    except NoProgram as refusal:
        return (refusal.word, refusal.at)
    return None


class HandedIn(unittest.TestCase):
    def test_programs_stay(self):
        for rows in (EACH_KIND, OTHER):
            program = list(rows)
            check(program)
            self.assertEqual(program, list(rows))
            asked(program)
            self.assertEqual(program, list(rows))

    def test_refused_lists_stay(self):
        for rows, word_and_at in REFUSED:
            before = copy.deepcopy(rows)
            self.assertEqual(refusal_of(rows), word_and_at)
            self.assertEqual(rows, before)

    def test_things_asked_about_stay(self):
        thing = ["reckon", "x", ["+"], {"a": [1]}]
        before = copy.deepcopy(thing)
        self.assertIs(is_row(thing), False)
        self.assertIs(is_name(thing), False)
        self.assertIs(is_row(("say", thing)), False)
        self.assertEqual(thing, before)


class GivenBack(unittest.TestCase):
    def test_the_same_behind_changed_answers(self):
        program = list(EACH_KIND)
        first = asked(program)
        kept = copy.deepcopy(first)
        for told in first.values():
            told.reverse()
            told.append("changed")
        self.assertEqual(asked(program), kept)
        for told in asked(program).values():
            told.clear()
        self.assertEqual(asked(program), kept)
        self.assertEqual(program, list(EACH_KIND))

    def test_each_time_another_list(self):
        program = list(EACH_KIND)
        first, second = asked(program), asked(program)
        for question in first:
            self.assertIsInstance(first[question], list)
            self.assertIsNot(first[question], second[question], question)

    def test_lists_of_one_row_without_followers(self):
        program = [("end",)]
        followers(program, 0).append(7)
        reckonings(program).append(7)
        places(program).append(7)
        leading(program, 0).append(7)
        self.assertEqual(asked(program), {
            "places": [(-1, 0)], "reckonings": [], ("followers", 0): [], ("leading", 0): [(-1, 0)]})


class ChangedBehind(unittest.TestCase):
    def test_a_program_changed_behind_the_call_changes_no_answer(self):
        program = list(EACH_KIND)
        told = asked(program)
        kept = copy.deepcopy(told)
        program[:] = list(OTHER)
        self.assertEqual(told, kept)
        program.clear()
        self.assertEqual(told, kept)

    def test_a_changed_program_is_told_as_it_is_now(self):
        program = list(EACH_KIND)
        asked(program)
        check(program)
        program[:] = list(OTHER)
        self.assertEqual(asked(program), asked(list(OTHER)))
        self.assertEqual(reckonings(program), [("*", "y", "y")])
        self.assertEqual(followers(program, 7), [8, 6])
        program[8] = ("say", 1)
        self.assertEqual(refusal_of(program), ("row", 8))
        program[8] = ("go", 6)
        self.assertIsNone(refusal_of(program))


class AskedAhead(unittest.TestCase):
    def test_others_in_between(self):
        program, other = list(EACH_KIND), list(OTHER)
        one_told, other_told = asked(program), asked(other)
        self.assertNotEqual(one_told, other_told)
        for count in range(3):
            for rows, word_and_at in REFUSED:
                self.assertEqual(refusal_of(rows), word_and_at)
                self.assertIsNone(refusal_of(program))
                self.assertEqual(asked(program), one_told)
                self.assertEqual(refusal_of(rows), word_and_at)
                self.assertIsNone(refusal_of(other))
                self.assertEqual(asked(other), other_told)

    def test_rows_asked_twice(self):
        for count in range(2):
            for name, told in (("a", True), ("say", False), ("A", False), ("b", True), (1, False), (True, False)):
                self.assertIs(is_name(name), told)
            for row, told in ((("say", 1), True), (("say", True), False), (("say", 1.0), False), (("say", 1), True)):
                self.assertIs(is_row(row), told)
            self.assertEqual(sets(EACH_KIND[0]), "n")
            self.assertIsNone(sets(EACH_KIND[1]))
            self.assertEqual(reckoning_of(EACH_KIND[2]), ("+", "a", "b"))
            self.assertIsNone(reckoning_of(EACH_KIND[3]))
            self.assertIs(changes(EACH_KIND[6], ("-", "n", 1)), True)
            self.assertIs(changes(EACH_KIND[2], ("-", "n", 1)), False)

    def test_equal_worths_of_other_kinds_in_between(self):
        for count in range(2):
            self.assertIsNone(refusal_of([("say", 1), ("go", 2), ("end",)]))
            self.assertEqual(refusal_of([("say", True), ("go", 2), ("end",)]), ("row", 0))
            self.assertEqual(refusal_of([("say", 1), ("go", 2.0), ("end",)]), ("row", 1))


if __name__ == "__main__":
    unittest.main()
