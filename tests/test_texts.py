"""Point 8, interface texts: read and show."""

import random
import unittest

from lazyhoist.errors import HoistError, NoProgram, NoText
from lazyhoist.programs import check
from lazyhoist.texts import read, show
from tests.samples import SIGNS, drawn_programs, shapes

GREATEST = 2 ** 64 - 1
EACH_KIND = "x = a + b\ny = x\nsay y\ngo 4\npart a 6\ngo 6\nend"
EACH_KIND_ROWS = [
    ("reckon", "x", "+", "a", "b"), ("copy", "y", "x"), ("say", "y"), ("go", 4), ("part", "a", 6), ("go", 6), ("end",),
]
# One line of each kind, and the row that it writes.
LINES = (
    ("x = a + b", ("reckon", "x", "+", "a", "b")),
    ("x = 1 - 2", ("reckon", "x", "-", 1, 2)),
    ("x = y = 3", ("reckon", "x", "=", "y", 3)),
    ("x = 3 = y", ("reckon", "x", "=", 3, "y")),
    ("x = a", ("copy", "x", "a")),
    ("x = 7", ("copy", "x", 7)),
    ("say a", ("say", "a")),
    ("say 0", ("say", 0)),
    ("go 4", ("go", 4)),
    ("part a 4", ("part", "a", 4)),
    ("part 1 0", ("part", 1, 0)),
    ("end", ("end",)),
)
NO_NAMES = (
    "abcdefghi", "a23456789", "1a", "0x", "A", "aB", "Say", "END", "say", "go", "part", "end", "a_b", "_a", "a.b",
    "a-b", "a+b", "-a", "a,", "(a)", "'a'", "~", "!", "$a",
)
NO_NUMBERS = (
    "-1", "+1", "1_0", "0x1", "0b1", "0o7", "00", "01", "007", "0_0", "-0", "+0", "1.0", "1e3", "1.", ".5", "1a",
    "1,000",
)


def refused(text):
    """The refusal's line, or what was read, where it was not refused."""
    try:
        return ("read", read(text))
    except NoText as refusal:
        return refusal.line


class Case(unittest.TestCase):
    def assert_line_is_none(self, line):
        """The line is told wherever it stands, and whatever lines stand about it."""
        self.assertEqual(refused(line), 0, line)
        self.assertEqual(refused("say 1\n" + line), 1, line)
        self.assertEqual(refused(line + "\nend"), 0, line)
        self.assertEqual(refused("\n# one\nsay 1\n" + line + "\n\nend\n"), 3, line)

    def assert_reads(self, line, row):
        rows = read(line)
        self.assertEqual(rows, [row], line)
        self.assertEqual([[type(thing) for thing in told] for told in rows], [[type(thing) for thing in row]], line)
        self.assertIsInstance(rows[0], tuple)


class Lines(Case):
    def test_each_kind(self):
        self.assertEqual(read(EACH_KIND), EACH_KIND_ROWS)
        for line, row in LINES:
            self.assert_reads(line, row)

    def test_each_sign(self):
        for sign in SIGNS:
            self.assert_reads(f"x = a {sign} b", ("reckon", "x", sign, "a", "b"))
            self.assert_reads(f"x = 1 {sign} b", ("reckon", "x", sign, 1, "b"))
            self.assert_reads(f"x = a {sign} {GREATEST}", ("reckon", "x", sign, "a", GREATEST))

    def test_the_order_of_operands(self):
        self.assert_reads("x = p - q", ("reckon", "x", "-", "p", "q"))
        self.assert_reads("x = q - p", ("reckon", "x", "-", "q", "p"))
        self.assert_reads("x = x - x", ("reckon", "x", "-", "x", "x"))

    def test_names(self):
        for name in ("a", "z", "a0", "abcdefgh", "z9999999", "says", "go1", "ends", "parts", "reckon", "copy"):
            self.assert_reads(f"{name} = a", ("copy", name, "a"))
            self.assert_reads(f"{name} = a + b", ("reckon", name, "+", "a", "b"))
            self.assert_reads(f"x = {name}", ("copy", "x", name))
            self.assert_reads(f"x = {name} * {name}", ("reckon", "x", "*", name, name))
            self.assert_reads(f"say {name}", ("say", name))
            self.assert_reads(f"part {name} 3", ("part", name, 3))

    def test_names_that_are_none(self):
        for name in NO_NAMES:
            for line in ("{} = a", "{} = a + b", "x = {}", "x = {} + b", "x = a + {}", "say {}", "part {} 4"):
                self.assert_line_is_none(line.format(name))

    def test_a_worth_is_no_name(self):
        for line in ("1 = a", "0 = a + b", "1 = 1", "7 = 3 = 3"):
            self.assert_line_is_none(line)

    def test_signs_that_are_none(self):
        for sign in ("/", "%", "**", "==", "<=", ">=", ">", "!", "~", "+-", "&&", "||", "<<", "-+", "a", "1", "and",
                     "x", ",", "\\", "?", ":", "@"):
            self.assert_line_is_none(f"x = a {sign} b")
        for sign in ("==", ":=", "+=", "+", "-", "<", "is", "a", "1"):
            self.assert_line_is_none(f"x {sign} a")
            self.assert_line_is_none(f"x {sign} a + b")

    def test_a_word_too_many(self):
        for line, row in LINES:
            for more in ("a", "1", "+", "=", "end"):
                self.assert_line_is_none(f"{line} {more}")
                self.assert_line_is_none(f"{more} {line}")

    def test_a_word_too_few(self):
        for line in ("x = a +", "x = + b", "x a + b", "= a + b", "x =", "= a", "x a", "x", "=", "say", "go", "part",
                     "part a", "part 4", "x = =", "+", "a + b", "4"):
            self.assert_line_is_none(line)

    def test_other_words_and_orders(self):
        for line in ("END", "End", "say", "Say a", "say a b", "goto 4", "4 go", "a say", "part 4 a", "part a b", "go a",
                     "x = say", "x = go 4", "go go", "part part 4", "say say", "end end", "end 4", "copy x a",
                     "reckon x + a b", "a = = b", "x = a = = b", "part = 4", "say = 3", "go = 3", "end = 3",
                     "part = 3 + 4", "say = a + b", "x + a = b", "if a 4"):
            self.assert_line_is_none(line)

    def test_words_without_a_blank(self):
        for line in ("x=a", "x= a", "x =a", "x = a+b", "x = a +b", "x = a+ b", "x=a+b", "saya", "say1", "go4",
                     "parta 4", "part a4", "part1 4", "endend", "end;", "x = y=3", "x=y = 3", "x = a-1", "x = -1 + b"):
            self.assert_line_is_none(line)

    def test_other_blanks_part_no_words(self):
        for blank in ("\t", "\r", "\f", "\v", "\u00a0", "\u2003", "\x1c", "\x85", "\u2028"):
            self.assertEqual(refused(f"say{blank}a\nend"), 0)
            self.assertEqual(refused(f"end\nend{blank}"), 1)
            self.assertEqual(refused(f"end\n{blank}\nend"), 1)


class Numbers(Case):
    def test_operands(self):
        for worth in (0, 1, 9, 10, 100, 2 ** 63, 10 ** 19, GREATEST - 1, GREATEST):
            self.assert_reads(f"say {worth}", ("say", worth))
            self.assert_reads(f"x = {worth}", ("copy", "x", worth))
            self.assert_reads(f"x = {worth} + {worth}", ("reckon", "x", "+", worth, worth))
            self.assert_reads(f"part {worth} 3", ("part", worth, 3))

    def test_operands_above_the_greatest_worth(self):
        for number in (2 ** 64, 2 ** 64 + 1, 10 ** 20 - 1, 99999999999999999999, 10 ** 20, 10 ** 25):
            for line in ("say {}", "x = {}", "x = {} + b", "x = a + {}", "part {} 3"):
                self.assert_line_is_none(line.format(number))

    def test_to_may_be_any_number(self):
        for to in (0, 1, 9, 10, 60, 2 ** 64 - 1, 2 ** 64, 99999999999999999999, 12345678901234567890, 10 ** 30):
            self.assert_reads(f"go {to}", ("go", to))
            self.assert_reads(f"part a {to}", ("part", "a", to))

    def test_numbers_of_very_many_figures(self):
        figures = "9" * 6000
        self.assertEqual(refused("end\nsay " + figures), 1)
        self.assertEqual(read("go " + figures), [("go", 10 ** 6000 - 1)])

    def test_numbers_that_are_written_otherwise(self):
        for number in NO_NUMBERS:
            for line in ("say {}", "x = {}", "x = {} + b", "x = a + {}", "part {} 3", "go {}", "part a {}"):
                self.assert_line_is_none(line.format(number))

    def test_a_to_is_no_name(self):
        for line in ("go a", "part a b", "go x1", "go end", "part a end", "go =", "go +"):
            self.assert_line_is_none(line)


class Blanks(Case):
    def test_several_blanks(self):
        for line, row in LINES:
            words = line.split(" ")
            for between in (" ", "  ", "       "):
                for about in ("", " ", "    "):
                    self.assert_reads(about + between.join(words), row)
                    self.assert_reads(between.join(words) + about, row)
                    self.assert_reads(about + between.join(words) + about, row)

    def test_remarks(self):
        for line, row in LINES:
            for remark in ("#", "# remark", "#remark", " #", "   # end", "# a # b", "#x = a + b", "##", " # \\n ~"):
                self.assert_reads(line + remark, row)
                self.assertEqual(read(remark + "\n" + line), [row])
                self.assertEqual(read(line + "\n" + remark), [row])

    def test_a_remark_takes_the_rest_of_its_line(self):
        self.assertEqual(read("x = a # + b\nend"), [("copy", "x", "a"), ("end",)])
        self.assertEqual(read("#end\nx = a#+ b"), [("copy", "x", "a")])
        self.assertEqual(refused("x = # a"), 0)
        self.assertEqual(refused("# end"), 0)
        self.assertEqual(refused("end\nsa#y a"), 1)
        self.assertEqual(read("go 1#0"), [("go", 1)])

    def test_lines_that_are_left_out(self):
        for left in ("", " ", "     ", "#", "  # remark", "# x = a"):
            with self.subTest(left=left):
                self.assertEqual(read(f"{left}\nsay 1\nend"), [("say", 1), ("end",)])
                self.assertEqual(read(f"say 1\n{left}\nend"), [("say", 1), ("end",)])
                self.assertEqual(read(f"say 1\nend\n{left}"), [("say", 1), ("end",)])
                self.assertEqual(read(f"{left}\n{left}\nsay 1\n{left}\n{left}\n{left}\nend\n{left}\n{left}"),
                                 [("say", 1), ("end",)])

    def test_line_feeds_at_the_end(self):
        for feeds in range(5):
            self.assertEqual(read(EACH_KIND + "\n" * feeds), EACH_KIND_ROWS)
            self.assertEqual(read("\n" * feeds + EACH_KIND), EACH_KIND_ROWS)


class Refused(Case):
    def test_neither_a_row_nor_a_line_that_is_none(self):
        for text in ("", " ", "      ", "\n", "\n\n\n\n", " \n ", "#", "# end", "\n\n# end\n  \n#", "\n  # x = a"):
            self.assertEqual(refused(text), 0, repr(text))

    def test_the_first_of_several(self):
        self.assertEqual(refused("end\nA\nB\nend"), 1)
        self.assertEqual(refused("A\nB"), 0)
        self.assertEqual(refused("end\n\n\nx = \ngo a\nend end"), 3)

    def test_lines_that_are_left_out_count(self):
        self.assertEqual(refused("\nA"), 1)
        self.assertEqual(refused("# one\n\n   \nend\n#\nA\nend"), 5)
        self.assertEqual(refused("\n\n\nA\n\n\n"), 3)
        self.assertEqual(refused("end\n" * 70 + "A\n" + "end\n" * 70), 70)

    def test_the_last_line(self):
        self.assertEqual(refused("end\nend\nA"), 2)
        self.assertEqual(refused("end\nend\nA\n"), 2)

    def test_it_is_a_hoist_error_with_a_whole_number(self):
        with self.assertRaises(HoistError) as caught:
            read("end\nA")
        self.assertIs(type(caught.exception), NoText)
        self.assertIs(type(caught.exception.line), int)
        with self.assertRaises(NoText) as caught:
            read("")
        self.assertIs(type(caught.exception.line), int)


class NotChecked(unittest.TestCase):
    def test_rows_that_are_no_program(self):
        for text, rows in (
            ("go 9", [("go", 9)]),
            ("part a 1\nend", [("part", "a", 1), ("end",)]),
            ("say 1", [("say", 1)]),
            ("end\nend", [("end",), ("end",)]),
            ("go 0", [("go", 0)]),
            ("part a 70", [("part", "a", 70)]),
        ):
            self.assertEqual(read(text), rows)
            self.assertRaises(NoProgram, check, rows)

    def test_more_than_sixty_rows(self):
        for count in (60, 61, 62, 100, 1000):
            self.assertEqual(read("say a\n" * count), [("say", "a")] * count)

    def test_more_than_twenty_thousand_signs(self):
        for count in (999, 1000, 1001, 5000):
            rows = read("x = aaaaaaa + bbbbbb\n" * count)
            self.assertEqual(rows, [("reckon", "x", "+", "aaaaaaa", "bbbbbb")] * count)


class Shown(unittest.TestCase):
    def test_each_kind(self):
        self.assertEqual(show(EACH_KIND_ROWS), EACH_KIND)

    def test_each_line(self):
        for line, row in LINES:
            if row[0] in ("go", "part"):
                program = [("go", 4), ("end",), ("end",), ("end",), row, ("go", 1)]
                self.assertEqual(show(program), f"go 4\nend\nend\nend\n{line}\ngo 1")
            elif row != ("end",):
                self.assertEqual(show([row, ("end",)]), f"{line}\nend")

    def test_each_sign(self):
        for sign in SIGNS:
            self.assertEqual(show([("reckon", "x", sign, "p", "q"), ("end",)]), f"x = p {sign} q\nend")
            self.assertEqual(show([("reckon", "x", sign, 0, GREATEST), ("end",)]), f"x = 0 {sign} {GREATEST}\nend")

    def test_one_row(self):
        self.assertEqual(show([("end",)]), "end")

    def test_single_blanks_and_one_line_for_each_row(self):
        text = "\n # one\n  x   =  a   +  b#two\n\ny = x #\n   say   y\ngo    4   \n part  a   6\ngo 6\n\n  end  \n\n"
        self.assertEqual(show(read(text)), EACH_KIND)
        for name, program in shapes():
            shown = show(program)
            self.assertIsInstance(shown, str)
            self.assertEqual(len(shown.split("\n")), len(program), name)
            for line in shown.split("\n"):
                self.assertEqual(line, " ".join(line.split()), name)
                self.assertNotEqual(line, "", name)

    def test_what_is_shown_is_read_back(self):
        drawn = drawn_programs(random.Random(8), 200, 1, 9)
        for program in [program for name, program in shapes()] + drawn:
            self.assertEqual(read(show(program)), program)
            self.assertEqual(show(read(show(program))), show(program))

    def test_long_programs(self):
        program = [("reckon", "abcdefgh", "+", GREATEST, GREATEST)] * 3599 + [("end",)]
        self.assertGreater(len(show(program)), 20000)
        self.assertEqual(read(show(program)), program)


if __name__ == "__main__":
    unittest.main()
