"""Points 3, 4 and 7, interface rows: names, rows, and what a row does to a reckoning."""

import unittest

from lazyhoist.rows import changes, is_name, is_row, reckoning_of, sets

LETTERS = "abcdefghijklmnopqrstuvwxyz"
FIGURES = "0123456789"
SIGNS = ("+", "-", "*", "&", "|", "^", "<", "=")
GREATEST = 2 ** 64 - 1


def nothing():
    return None


NO_TEXTS = (
    None, True, False, 0, 1, -1, 10 ** 30, 1.0, 0.5, float("nan"), float("inf"), 1j, b"a", bytearray(b"a"),
    [], ["a"], (), ("a",), {}, {"a": "a"}, {"a"}, frozenset("a"), range(3), object(), nothing, str, NotImplemented, ...,
)
NO_NAMES = (
    "", "A", "aB", "Abc", "1", "1a", "0", "abcdefghi", "a" * 9, "a" * 1000, "a b", " a", "a ", "a\n", "\na", "a\t",
    "a\0", "abcdefg\n", "abcdefgh\n", "a_b", "_a", "_", "a-b", "a.", "a+b", "+", "=", "#", "a#", "{a}",
    "say", "go", "part", "end",
    "\u00e9", "a\u00e9", "\u00df", "a\u00b2", "a\u00aa", "\u0430", "a\u0430", "a\u0663", "a\u0966", "a\uff11",
    "\uff41", "a\u0301", "a\u017f", "\u0131", "a\u2160", "a\U0001d41a", "a\U0001d7d8", "a\ud800",
)
NAMES = (
    "a", "z", "x", "a0", "a9", "z9z9z9z9", "abcdefgh", "a2345678", "ab1cd2ef",
    "says", "sa", "say1", "saysay", "go1", "gone", "g", "goo", "parts", "par", "part0", "ends", "en", "end2", "ending",
    "asay", "ago", "apart", "bend", "reckon", "copy", "row", "keep", "read", "own",
)
NO_WORTHS = (-1, 2 ** 64, 2 ** 64 + 1, -(2 ** 64), 10 ** 30, True, False)
NO_SIGNS = (
    "", "+-", "++", "<=", "==", "- *", " +", "+ ", "+\n", "/", "%", ">", "!", "~", "**", "**=", "a", "0", "&|", "|^",
    "+-*&|^<=", "+ - * & | ^ < =", "\uff0b", "\u2212", "\u00d7",
)
NO_TARGETS = (-1, -2, -(10 ** 30), True, False, "0", "a", "", 0.0, 1.0, None, [0], (0,), {0: 0})
NO_OPERANDS = NO_NAMES + NO_WORTHS + (
    None, 1.0, 0.0, b"a", [], ["a"], [0], (), ("a",), (0,), {}, {"a": 0}, {0}, object(),
)


class Names(unittest.TestCase):
    def test_names(self):
        for name in NAMES:
            with self.subTest(name=name):
                self.assertIs(is_name(name), True)

    def test_texts_that_are_none(self):
        for text in NO_NAMES:
            with self.subTest(text=text):
                self.assertIs(is_name(text), False)

    def test_things_that_are_no_texts(self):
        for thing in NO_TEXTS:
            with self.subTest(thing=thing):
                self.assertIs(is_name(thing), False)

    def test_lengths(self):
        for length in range(30):
            self.assertIs(is_name("a" * length), 1 <= length <= 8, length)
            self.assertIs(is_name("a" + "7" * length), length <= 7, length)

    def test_every_sign_in_every_place(self):
        for code in list(range(0x3000)) + list(range(0xff00, 0x10000)):
            sign = chr(code)
            self.assertIs(is_name(sign), sign in LETTERS, code)
            self.assertIs(is_name(sign + "a"), sign in LETTERS, code)
            for text in ("a" + sign, "a" + sign + "a", "abcdefg" + sign):
                self.assertIs(is_name(text), sign in LETTERS or sign in FIGURES, code)


ROWS = (
    ("reckon", "x", "+", "a", "b"), ("reckon", "x", "-", "x", "y"), ("reckon", "x", "*", "x", "x"),
    ("reckon", "abcdefgh", "&", 0, "b"), ("reckon", "x1", "|", "a", GREATEST), ("reckon", "x", "^", 1, 2),
    ("reckon", "x", "<", "abcdefgh", 7), ("reckon", "x", "=", "y", 3), ("reckon", "reckon", "+", "copy", "copy"),
    ("copy", "x", "a"), ("copy", "x", "x"), ("copy", "x", 0), ("copy", "abcdefgh", GREATEST),
    ("say", "a"), ("say", 0), ("say", GREATEST), ("say", "abcdefgh"), ("say", "says"),
    ("go", 0), ("go", 1), ("go", 59), ("go", 60), ("go", 2 ** 64), ("go", 10 ** 40),
    ("part", "a", 0), ("part", 0, 0), ("part", GREATEST, 59), ("part", "a", 60), ("part", "a", 10 ** 40),
    ("end",),
)
# What may not stand at each place of a row, by the row's word; the word's own place is told apart.
WRONG_PARTS = {
    "reckon": (NO_NAMES + NO_TEXTS, NO_SIGNS + NO_TEXTS, NO_OPERANDS, NO_OPERANDS),
    "copy": (NO_NAMES + NO_TEXTS, NO_OPERANDS),
    "say": (NO_OPERANDS,),
    "go": (NO_TARGETS,),
    "part": (NO_OPERANDS, NO_TARGETS),
    "end": (),
}
NO_WORDS = (
    "", "Reckon", "SAY", "says", "sa", "say ", " say", "go\n", "reckons", "goto", "ends", "row", "x", "+", "a",
    None, 0, 1, True, 1.0, b"say", ["say"], ("say",), {"say": 1}, {"say"},
)


class Rows(unittest.TestCase):
    def test_rows(self):
        for row in ROWS:
            with self.subTest(row=row):
                self.assertIs(is_row(row), True)

    def test_each_sign(self):
        for sign in SIGNS:
            self.assertIs(is_row(("reckon", "x", sign, "a", 1)), True, sign)

    def test_every_other_single_sign(self):
        for code in range(0x300):
            self.assertIs(is_row(("reckon", "x", chr(code), "a", 1)), chr(code) in SIGNS, code)

    def test_every_pair_of_signs(self):
        for one in SIGNS + ("",):
            for other in SIGNS + ("",):
                text = one + other
                self.assertIs(is_row(("reckon", "x", text, "a", 1)), text in SIGNS, text)

    def test_one_thing_left_out(self):
        for row in ROWS:
            for k in range(len(row)):
                left = row[:k] + row[k + 1:]
                with self.subTest(left=left):
                    self.assertIs(is_row(left), False)

    def test_one_thing_more(self):
        for row in ROWS:
            for more in ("a", 0, 1, "+", None, "", (), []):
                with self.subTest(row=row, more=more):
                    self.assertIs(is_row(row + (more,)), False)

    def test_another_first_word(self):
        for row in ROWS:
            for word in NO_WORDS:
                with self.subTest(row=row, word=word):
                    self.assertIs(is_row((word,) + row[1:]), False)

    def test_first_words_of_other_rows(self):
        self.assertIs(is_row(("go", "a")), False)
        self.assertIs(is_row(("end", "a")), False)
        self.assertIs(is_row(("say",)), False)
        self.assertIs(is_row(("go",)), False)
        self.assertIs(is_row(("copy", "x", "+", "a", "b")), False)
        self.assertIs(is_row(("reckon", "x", "a")), False)
        self.assertIs(is_row(("part", "x", "a")), False)
        self.assertIs(is_row(("copy", 1, 4)), False)
        self.assertIs(is_row(("say", 2 ** 64)), False)
        self.assertIs(is_row(("go", 2 ** 64)), True)

    def test_a_list_in_its_place(self):
        for row in ROWS:
            self.assertIs(is_row(list(row)), False, row)

    def test_a_list_in_the_place_of_a_thing(self):
        for row in ROWS:
            for k in range(len(row)):
                for put in ([row[k]], (row[k],), []):
                    with self.subTest(row=row, k=k, put=put):
                        self.assertIs(is_row(row[:k] + (put,) + row[k + 1:]), False)

    def test_a_thing_that_may_not_stand_there(self):
        for row in ROWS:
            for k, wrong in enumerate(WRONG_PARTS[row[0]], start=1):
                for put in wrong:
                    broken = row[:k] + (put,) + row[k + 1:]
                    with self.subTest(broken=broken):
                        self.assertIs(is_row(broken), False)

    def test_worths_are_no_names(self):
        for worth in (0, 1, GREATEST):
            self.assertIs(is_row(("copy", worth, "a")), False)
            self.assertIs(is_row(("reckon", worth, "+", "a", "b")), False)

    def test_things_that_are_no_tuples_or_no_rows(self):
        for thing in NO_TEXTS + NAMES + NO_NAMES + ("reckon", "x = a", "go 4", ("e", "n", "d"), (("end",),)):
            with self.subTest(thing=thing):
                self.assertIs(is_row(thing), False)

    def test_bounds_of_worths(self):
        for worth in (0, 1, 2, 2 ** 32, 2 ** 63, GREATEST - 1, GREATEST):
            for row in (("say", worth), ("copy", "x", worth), ("part", worth, 0), ("reckon", "x", "+", worth, worth)):
                self.assertIs(is_row(row), True, row)
        for worth in NO_WORTHS:
            for row in (("say", worth), ("copy", "x", worth), ("part", worth, 0),
                        ("reckon", "x", "+", worth, 0), ("reckon", "x", "+", 0, worth)):
                self.assertIs(is_row(row), False, row)


NOT_SETTING = (("say", "a"), ("say", 3), ("go", 4), ("part", "a", 4), ("part", 1, 0), ("end",))


class ReckoningOf(unittest.TestCase):
    def test_reckon_rows(self):
        for sign in SIGNS:
            self.assertEqual(reckoning_of(("reckon", "x", sign, "a", "b")), (sign, "a", "b"))
        self.assertEqual(reckoning_of(("reckon", "x", "-", "b", "a")), ("-", "b", "a"))
        self.assertEqual(reckoning_of(("reckon", "x", "+", "x", "y")), ("+", "x", "y"))
        self.assertEqual(reckoning_of(("reckon", "x", "<", 0, GREATEST)), ("<", 0, GREATEST))
        self.assertIsInstance(reckoning_of(("reckon", "x", "+", "a", 3)), tuple)

    def test_other_rows(self):
        for row in NOT_SETTING + (("copy", "x", "a"), ("copy", "x", 3)):
            self.assertIsNone(reckoning_of(row), row)


class Sets(unittest.TestCase):
    def test_reckon_and_copy(self):
        self.assertEqual(sets(("reckon", "x", "+", "a", "b")), "x")
        self.assertEqual(sets(("reckon", "a", "+", "a", "b")), "a")
        self.assertEqual(sets(("copy", "y", "x")), "y")
        self.assertEqual(sets(("copy", "y", 0)), "y")

    def test_rows_that_set_nothing(self):
        for row in NOT_SETTING:
            self.assertIsNone(sets(row), row)


class Changes(unittest.TestCase):
    def test_a_row_that_sets_its_own_operand(self):
        row = ("reckon", "x", "+", "x", "y")
        self.assertIs(changes(row, reckoning_of(row)), True)
        row = ("reckon", "y", "+", "x", "y")
        self.assertIs(changes(row, reckoning_of(row)), True)
        row = ("reckon", "z", "+", "x", "y")
        self.assertIs(changes(row, reckoning_of(row)), False)

    def test_operands_on_either_side_or_both(self):
        for row in (("reckon", "a", "*", "p", 3), ("copy", "a", "p"), ("copy", "a", 3), ("copy", "a", "a")):
            for reckoning, told in (
                (("+", "a", "b"), True), (("+", "b", "a"), True), (("+", "a", "a"), True), (("-", "a", 3), True),
                (("-", 3, "a"), True), (("<", "b", "c"), False), (("=", 3, 4), False), (("^", "a1", "aa"), False),
                (("*", "p", 3), False), (("*", "p", "p"), False),
            ):
                with self.subTest(row=row, reckoning=reckoning):
                    self.assertIs(changes(row, reckoning), told)

    def test_reading_an_operand_changes_nothing(self):
        self.assertIs(changes(("copy", "x", "a"), ("+", "a", "b")), False)
        self.assertIs(changes(("reckon", "x", "+", "a", "b"), ("+", "a", "b")), False)
        self.assertIs(changes(("reckon", "x", "-", "b", "a"), ("+", "a", "b")), False)

    def test_rows_that_set_nothing(self):
        for row in NOT_SETTING:
            for reckoning in (("+", "a", "b"), ("+", "b", "a"), ("+", 3, 4), ("-", "a", "a"), ("=", 1, 0)):
                with self.subTest(row=row, reckoning=reckoning):
                    self.assertIs(changes(row, reckoning), False)


if __name__ == "__main__":
    unittest.main()
