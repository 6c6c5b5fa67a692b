"""Point 11, interface runs: run."""

import random
import unittest

from lazyhoist.runs import run
from lazyhoist.worths import reckoned
from tests.samples import EACH_KIND, SIGNS, drawn_programs, shapes

GREATEST = 2 ** 64 - 1
END = ("end",)
ROUND = [("say", "a"), ("reckon", "a", "+", "a", 1), ("part", 1, 0), END]
# Three rows a round, and then the end: 3 * n + 1 rows where n is handed in, from 1 on.
DOWN = [("say", "n"), ("reckon", "n", "-", "n", 1), ("part", "n", 0), END]


def told_slowly(program, names, most):
    """What point 11 says, row by row."""
    worths, said, way, n = {}, [], [], 0
    for name in names:
        worths[name] = names[name]

    def worth(operand):
        return worths.get(operand, 0) if isinstance(operand, str) else operand

    def tell(word):
        return (word, said, {name: worths[name] for name in worths if worths[name]}, way)

    for count in range(most):
        row = program[n]
        way.append(n)
        n += 1
        if row == END:
            return tell("end")
        if row[0] == "reckon":
            worths[row[1]] = reckoned(row[2], worth(row[3]), worth(row[4]))
        elif row[0] == "copy":
            worths[row[1]] = worth(row[2])
        elif row[0] == "say":
            said.append(worth(row[1]))
        elif row[0] == "go":
            n = row[1]
        elif worth(row[1]) != 0:
            n = row[2]
    return tell("spent")


class Ends(unittest.TestCase):
    def test_an_end_alone(self):
        self.assertEqual(run([END], {}), ("end", [], {}, [0]))
        self.assertEqual(run([END], {}, 1), ("end", [], {}, [0]))
        self.assertEqual(run([END], {}, 0), ("spent", [], {}, []))
        self.assertEqual(run([END], {"a": 3, "b": 0}, 0), ("spent", [], {"a": 3}, []))

    def test_each_kind_of_row(self):
        self.assertEqual(
            run(list(EACH_KIND), {"a": 5, "b": GREATEST}),
            ("end", [4, 4, 4], {"a": 5, "b": GREATEST, "x": 4},
             [0, 1, 4, 5, 6, 7, 1, 4, 5, 6, 7, 1, 4, 5, 6, 7, 8]))

    def test_the_end_that_is_come_to(self):
        program = [("part", "a", 3), ("say", 1), END, ("part", "b", 6), ("say", 2), END, ("say", 3), END]
        self.assertEqual(run(program, {}), ("end", [1], {}, [0, 1, 2]))
        self.assertEqual(run(program, {"a": 1}), ("end", [2], {"a": 1}, [0, 3, 4, 5]))
        self.assertEqual(run(program, {"a": 1, "b": 1}), ("end", [3], {"a": 1, "b": 1}, [0, 3, 6, 7]))

    def test_said_in_order(self):
        program = [("say", "b"), ("say", 0), ("say", "a"), ("say", "b"), ("say", GREATEST), END]
        self.assertEqual(
            run(program, {"a": 1, "b": 2}), ("end", [2, 0, 1, 2, GREATEST], {"a": 1, "b": 2}, [0, 1, 2, 3, 4, 5]))

    def test_the_kinds_told(self):
        for most in (0, 2, 100):
            told = run(list(EACH_KIND), {"a": 1}, most)
            self.assertIs(type(told), tuple)
            self.assertEqual([type(thing) for thing in told], [str, list, dict, list])


class Most(unittest.TestCase):
    def test_as_many_as_it_needs(self):
        whole = ("end", [2, 1], {}, [0, 1, 2, 0, 1, 2, 3])
        for most in (7, 8, 100, 1000, 10000):
            self.assertEqual(run(DOWN, {"n": 2}, most), whole)
        self.assertEqual(run(DOWN, {"n": 2}), whole)

    def test_fewer_than_it_needs(self):
        told = (
            ("spent", [], {"n": 2}, []),
            ("spent", [2], {"n": 2}, [0]),
            ("spent", [2], {"n": 1}, [0, 1]),
            ("spent", [2], {"n": 1}, [0, 1, 2]),
            ("spent", [2, 1], {"n": 1}, [0, 1, 2, 0]),
            ("spent", [2, 1], {}, [0, 1, 2, 0, 1]),
            ("spent", [2, 1], {}, [0, 1, 2, 0, 1, 2]),
        )
        for most, what in enumerate(told):
            self.assertEqual(run(DOWN, {"n": 2}, most), what)

    def test_an_end_just_where_rows_are_used_up(self):
        for n in (1, 2, 30, 333, 3333):
            word, said, worths, way = run(DOWN, {"n": n}, 3 * n + 1)
            self.assertEqual((word, len(said), worths, len(way), way[-1]), ("end", n, {}, 3 * n + 1, 3))
            word, said, worths, way = run(DOWN, {"n": n}, 3 * n)
            self.assertEqual((word, len(said), worths, len(way), way[-1]), ("spent", n, {}, 3 * n, 2))

    def test_a_thousand_where_none_is_handed_in(self):
        self.assertEqual(run(DOWN, {"n": 333})[0], "end")
        self.assertEqual(len(run(DOWN, {"n": 333})[3]), 1000)
        word, said, worths, way = run(DOWN, {"n": 334})
        self.assertEqual((word, len(said), worths, len(way)), ("spent", 334, {"n": 1}, 1000))

    def test_round_and_round(self):
        for most in (0, 1, 2, 3, 4, 999, 1000, 1001, 10000):
            word, said, worths, way = run(ROUND, {}, most)
            self.assertEqual(word, "spent")
            self.assertEqual(way, [k % 3 for k in range(most)])
            self.assertEqual(said, list(range((most + 2) // 3)))
            self.assertEqual(worths, {"a": (most + 1) // 3} if most >= 2 else {})
        self.assertEqual(run(ROUND, {}), run(ROUND, {}, 1000))
        self.assertEqual(run([("part", "a", 0), END], {"a": 1}, 5), ("spent", [], {"a": 1}, [0] * 5))

    def test_by_its_name(self):
        self.assertEqual(run(program=DOWN, names={"n": 1}, most=4), ("end", [1], {}, [0, 1, 2, 3]))


class Names(unittest.TestCase):
    def test_all_are_0_but_those_handed_in(self):
        program = [("say", "a"), ("say", "b"), ("reckon", "c", "+", "a", "b"), END]
        self.assertEqual(run(program, {}), ("end", [0, 0], {}, [0, 1, 2, 3]))
        self.assertEqual(run(program, {"a": 4}), ("end", [4, 0], {"a": 4, "c": 4}, [0, 1, 2, 3]))
        self.assertEqual(
            run(program, {"a": 0, "b": 5}), ("end", [0, 5], {"b": 5, "c": 5}, [0, 1, 2, 3]))

    def test_names_that_the_program_does_not_have(self):
        self.assertEqual(
            run([("say", "a"), END], {"z": 7, "y": 0, "longname": 1}), ("end", [0], {"z": 7, "longname": 1}, [0, 1]))

    def test_names_that_the_program_sets(self):
        program = [("copy", "a", 9), ("reckon", "b", "-", "b", "b"), ("copy", "c", "d"), END]
        self.assertEqual(
            run(program, {"a": 1, "b": 2, "c": 3, "d": 4}), ("end", [], {"a": 9, "c": 4, "d": 4}, [0, 1, 2, 3]))

    def test_names_that_become_0(self):
        program = [("copy", "a", 0), ("copy", "b", "z"), ("reckon", "c", "=", 1, 2), ("say", "a"), END]
        self.assertEqual(run(program, {"a": 1, "b": 1, "c": 1}), ("end", [0], {}, [0, 1, 2, 3, 4]))
        self.assertEqual(run(program, {"a": 1, "b": 1, "c": 1}, 1), ("spent", [], {"b": 1, "c": 1}, [0]))

    def test_a_row_that_reads_what_it_sets(self):
        program = [("reckon", "a", "-", "b", "a"), ("reckon", "a", "*", "a", "a"), ("copy", "a", "a"), END]
        self.assertEqual(run(program, {"a": 2, "b": 5}), ("end", [], {"a": 9, "b": 5}, [0, 1, 2, 3]))

    def test_a_copy_does_not_follow_what_was_copied(self):
        program = [("copy", "a", "b"), ("copy", "b", 8), ("say", "a"), ("say", "b"), END]
        self.assertEqual(run(program, {"b": 3})[1:3], ([3, 8], {"a": 3, "b": 8}))

    def test_the_dict_handed_in_stays(self):
        for most in (0, 1, 3, 100):
            names = {"a": 1, "n": 3, "z": 0, "y": 5}
            told = run(list(EACH_KIND), names, most)
            self.assertEqual(names, {"a": 1, "n": 3, "z": 0, "y": 5})
            self.assertIsNot(told[2], names)
            told[2]["a"] = 7
            self.assertEqual(names["a"], 1)
        names = {"a": 1}
        told = run([END], names)
        self.assertIsNot(told[2], names)
        names["a"] = 2
        self.assertEqual(told[2], {"a": 1})


class Operands(unittest.TestCase):
    def test_worths_stand_for_themselves(self):
        for worth in (0, 1, 7, GREATEST):
            program = [("say", worth), ("copy", "x", worth), ("reckon", "y", "+", worth, 0), ("say", "x"), ("say", "y")]
            self.assertEqual(run(program + [END], {})[1], [worth] * 3)

    def test_each_sign(self):
        for sign in SIGNS:
            for a, b in ((0, 0), (1, 2), (7, 3), (GREATEST, GREATEST), (0, GREATEST)):
                program = [("reckon", "x", sign, "a", "b"), ("reckon", "y", sign, a, b), ("say", "x"), ("say", "y")]
                said = run(program + [END], {"a": a, "b": b})[1]
                self.assertEqual(said, [reckoned(sign, a, b)] * 2, (a, sign, b))

    def test_a_part(self):
        for operand, names, way in (
            ("a", {}, [0, 1]), ("a", {"a": 0}, [0, 1]), ("a", {"a": 1}, [0, 2, 3]), ("a", {"a": GREATEST}, [0, 2, 3]),
            (0, {"a": 1}, [0, 1]), (1, {}, [0, 2, 3]), (GREATEST, {}, [0, 2, 3]), ("b", {"a": 1}, [0, 1]),
        ):
            program = [("part", operand, 2), END, ("say", 1), END]
            told = run(program, names)
            self.assertEqual((told[0], told[3]), ("end", way), (operand, names))
            self.assertEqual(told[1], [1] if len(way) == 3 else [])

    def test_a_go(self):
        self.assertEqual(run([("go", 3), END, ("go", 1), ("go", 2)], {}), ("end", [], {}, [0, 3, 2, 1]))


class Drawn(unittest.TestCase):
    def test_against_the_words_of_the_point(self):
        source = random.Random(11)
        programs = [program for name, program in shapes()] + drawn_programs(source, 400, 1, 10)
        words = set()
        for program in programs:
            for count in range(3):
                names = {}
                for name in ("a", "b", "c", "x", "q"):
                    if source.random() < 0.6:
                        names[name] = source.choice((0, 1, 2, GREATEST))
                most = source.choice((0, 1, 2, 5, 20, 100))
                told = run(program, names, most)
                words.add(told[0])
                self.assertEqual(told, told_slowly(program, names, most))
        self.assertEqual(words, {"end", "spent"})


if __name__ == "__main__":
    unittest.main()
