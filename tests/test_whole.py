"""Point 30, interface whole: hoisted and saving."""

import random
import unittest

from lazyhoist.errors import HoistError, NoProgram, NoText
from lazyhoist.laying import moved
from lazyhoist.papers import paper
from lazyhoist.programs import check, reckonings
from lazyhoist.runs import run
from lazyhoist.texts import read, show
from lazyhoist.whole import hoisted, saving
from tests.allpapers import counted_slowly
from tests.samples import BOTH, COPY, END, RECKON, SAY, drawn_programs, shapes


def refusal_of(text):
    try:
        hoisted(text)
    except NoText as refusal:
        return ("text", refusal.line)
    except NoProgram as refusal:
        return (refusal.word, refusal.at)
    return None


class Hoisted(unittest.TestCase):
    def test_the_moved_program_as_it_is_shown(self):
        for name, program in shapes():
            told = hoisted(show(program))
            self.assertIs(type(told), str)
            self.assertEqual(told, show(moved(program)), name)
            self.assertEqual(read(told), moved(program), name)
            self.assertEqual(show(read(told)), told, name)

    def test_written_out(self):
        told = read(hoisted("part c 3\nx = a + b\nsay x\ny = a + b\nend"))
        box = [row[1] for row in told if row[0] == "reckon"][0]
        self.assertNotIn(box, ("a", "b", "c", "x", "y"))
        self.assertEqual(
            sorted(row for row in told if row[0] not in ("go", "part")),
            sorted([("reckon", box, "+", "a", "b")] * 2 + [("copy", "x", box), ("copy", "y", box), ("say", "x"), END]))
        for c in (0, 1):
            self.assertEqual(run(told, {"a": 2, "b": 3, "c": c})[:2], ("end", [5] if c == 0 else []))

    def test_nothing_to_move(self):
        for text in ("end", "x = a + b\nend", "x = x + y\npart x 0\nsay x\nend", "say 1\ngo 2\nend"):
            self.assertEqual(hoisted(text), text)

    def test_blanks_and_remarks(self):
        plain = "part c 3\nx = a + b\nsay x\ny = a + b\nend"
        written = "\n  # it does\n part   c 3 # aside\n\nx =  a + b\n   \nsay x#now\ny = a + b  \n  end   # it\n#\n"
        self.assertEqual(read(written), read(plain))
        self.assertEqual(hoisted(written), hoisted(plain))
        self.assertEqual(hoisted("  say   1\n\n end # it"), "say 1\nend")

    def test_hoisted_again_it_is_the_same(self):
        source = random.Random(30)
        for name, program in shapes() + [("drawn", drawn) for drawn in drawn_programs(source, 60, 4, 16)]:
            told = hoisted(show(program))
            self.assertEqual(hoisted(told), told, name)

    def test_a_long_text(self):
        # Eighteen reckonings, each kept at the many places that lead to row 41, of which one alone has them standing.
        rows = [("reckon", "z", s, 2 ** 64 - 1, 2 ** 64 - n) for s in "+-*" for n in range(1, 7)]
        asides = [("part", n, 41) for n in range(20)]
        program = [("part", "c", 20)] + rows + [("go", 41)] + asides + [SAY] + rows + [END]
        check(program)
        text = show(program)
        self.assertEqual((len(program), len(text) < 20000), (60, True))
        told = hoisted(text)
        self.assertGreater(len(told), 20000)
        self.assertEqual(read(told), moved(program))
        self.assertEqual(hoisted(told), told)


class Refused(unittest.TestCase):
    def test_texts_that_write_no_rows(self):
        for text, line in (
            ("", 0), ("\n\n", 0), ("# end", 0), ("x = a / b\nend", 0), ("end\nA = 1", 1), ("\n\nsay", 2),
            ("say 1\nx = 18446744073709551616\nend", 1), ("end end", 0), ("say 01\nend", 0), ("end\n\n# it\ngo x", 3),
        ):
            self.assertEqual(refusal_of(text), ("text", line), text)

    def test_rows_that_are_no_program(self):
        for text, word, at in (
            ("say 1", "row", 0), ("go 1", "row", 0), ("say 1\npart a 2\nend", "row", 1), ("go 7\nend", "row", 0),
            ("end\nend", "apart", 1), ("go 2\nsay 1\nend", "apart", 1), ("part a 2\nend\ngo 2", "endless", 2),
            ("# no row\n\ngo 99999999999999999999\nend", "row", 0),
        ):
            self.assertEqual(refusal_of(text), (word, at), text)

    def test_the_text_ahead_of_the_program(self):
        self.assertEqual(refusal_of("go 7\nend\nA"), ("text", 2))

    def test_just_as_read_and_check_refuse_them(self):
        source = random.Random(8)
        words = ("x", "=", "+", "go", "part", "say", "end", "0", "1", "2", "\n", "\n", "\n", " ", "#")
        for count in range(3000):
            text = " ".join(source.choice(words) for size in range(source.randint(1, 12)))
            told = None
            try:
                check(read(text))
            except NoText as refusal:
                told = ("text", refusal.line)
            except NoProgram as refusal:
                told = (refusal.word, refusal.at)
            self.assertEqual(refusal_of(text), told, text)

    def test_each_is_a_hoist_error(self):
        for text in ("", "say 1"):
            with self.assertRaises(HoistError):
                hoisted(text)


class Saving(unittest.TestCase):
    def test_for_each_reckoning(self):
        program = [RECKON, ("reckon", "w", "-", "x", "y"), RECKON, COPY, RECKON, ("reckon", "w", "-", "x", "y"), END]
        self.assertEqual(saving(program, {}), [1, 0])
        program = [RECKON, RECKON, RECKON, ("reckon", "w", "-", "x", "y"), ("reckon", "x", "-", "x", "y"), END]
        self.assertEqual(saving(program, {"x": 5}), [2, 1])

    def test_without_reckonings(self):
        self.assertEqual(saving([END], {}), [])
        self.assertEqual(saving([COPY, SAY, END], {"a": 1}, 2), [])

    def test_on_the_way_that_the_run_takes(self):
        program = [RECKON, ("part", "c", 4), RECKON, END, SAY, END]
        self.assertEqual(saving(program, {"c": 0}), [1])
        self.assertEqual(saving(program, {"c": 1}), [0])
        self.assertEqual(saving(program, {}), [1])

    def test_on_a_ring(self):
        program = [SAY, RECKON, ("reckon", "c", "-", "c", 1), ("part", "c", 0), END]
        for c in (1, 2, 7, 100):
            self.assertEqual(saving(program, {"c": c}), [c - 1, 0])

    def test_rows_that_change_what_they_reckon(self):
        program = [BOTH, ("reckon", "c", "-", "c", 1), ("part", "c", 0), END]
        self.assertEqual(saving(program, {"c": 9}), [0, 0])

    def test_fewer_rows_than_the_run_needs(self):
        # What is kept ahead of the run is reckoned, whether or not the run comes to a row that reads it.
        program = [SAY, RECKON, ("part", "c", 0), END]
        self.assertEqual(paper(program, 0), (((-1, 0),), ((1, "read"),)))
        for most, told in ((0, 0), (1, -1), (2, 0), (3, 0), (4, 0), (5, 1), (8, 2), (10, 2), (11, 3)):
            self.assertEqual(saving(program, {"c": 1}, most), [told], most)

    def test_none_handed_in(self):
        # A run of 1000 rows does row 1 for the 333rd time at its 998th row.
        program = [SAY, RECKON, ("part", "c", 0), END]
        self.assertEqual(saving(program, {"c": 1}), [332])
        self.assertEqual(saving(program, {"c": 1}), saving(program, {"c": 1}, 1000))
        self.assertEqual(saving(program, {"c": 1}, most=10000), [3332])
        # And here for the 333rd time at its last one.
        program = [SAY, SAY, SAY, RECKON, ("part", "c", 2), END]
        self.assertEqual((saving(program, {"c": 1}), saving(program, {"c": 1}, 999)), ([332], [331]))

    def test_most_of_0(self):
        for name, program in shapes():
            self.assertEqual(saving(program, {}, 0), [0] * len(reckonings(program)), name)

    def test_by_the_points_own_words(self):
        source = random.Random(31)
        ended = 0
        for name, program in shapes() + [("drawn", drawn) for drawn in drawn_programs(source, 150, 4, 14)]:
            papers = [paper(program, k) for k in range(len(reckonings(program)))]
            for most in (0, 1, 5, 30, 300):
                names = {name: source.choice((0, 1, 2, 3)) for name in "abcnxy"}
                word, said, worths, way = run(program, names, most)
                told = saving(program, names, most)
                self.assertIs(type(told), list)
                self.assertEqual(told, [
                    sum(program[n][2:] == reckoning for n in way if program[n][0] == "reckon")
                    - counted_slowly(papers[k], way) for k, reckoning in enumerate(reckonings(program))], name)
                if word == "end":
                    ended += 1
                    self.assertGreaterEqual(min(told, default=0), 0, name)
        self.assertGreater(ended, 100)

    def test_a_dozen_reckonings_and_more(self):
        rows = [("reckon", "z", "+", "x", n) for n in range(14)]
        program = rows + rows[3:] + [COPY] + rows + rows[:2] + [END]
        self.assertEqual(saving(program, {}), [1, 1, 0] + [1] * 11)

    def test_where_ways_meet(self):
        program = [("part", "c", 3), RECKON, ("go", 4), SAY, RECKON, END]
        self.assertEqual((saving(program, {"c": 0}), saving(program, {"c": 1})), ([1], [0]))


if __name__ == "__main__":
    unittest.main()
