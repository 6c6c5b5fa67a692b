"""Point 10, interface worths: reckoned."""

import random
import unittest

from lazyhoist.worths import reckoned
from tests.samples import SIGNS

HALF = 2 ** 63
GREATEST = 2 ** 64 - 1
EDGES = (0, 1, 2, 2 ** 32 - 1, 2 ** 32, HALF - 1, HALF, HALF + 1, GREATEST - 1, GREATEST)


def by_bits(a, b, holds):
    """The worth whose bit k is there where holds says so of the bits k of both."""
    told = 0
    for k in range(64):
        if holds(a >> k & 1, b >> k & 1):
            told += 1 << k
    return told


def brought_back(number):
    """The number, less a multiple of 2 ** 64, that is a worth."""
    return number - number // 2 ** 64 * 2 ** 64


def expected(s, a, b):
    return {
        "+": lambda: brought_back(a + b),
        "-": lambda: brought_back(a - b),
        "*": lambda: brought_back(a * b),
        "&": lambda: by_bits(a, b, lambda p, q: p + q == 2),
        "|": lambda: by_bits(a, b, lambda p, q: p + q >= 1),
        "^": lambda: by_bits(a, b, lambda p, q: p + q == 1),
        "<": lambda: 1 if a < b else 0,
        "=": lambda: 1 if a == b else 0,
    }[s]()


class Written(unittest.TestCase):
    def compare(self, s, rows):
        for a, b, told in rows:
            self.assertEqual(reckoned(s, a, b), told, (a, s, b))

    def test_sums(self):
        self.compare("+", ((0, 0, 0), (1, 2, 3), (HALF, HALF, 0), (GREATEST, 1, 0), (1, GREATEST, 0),
                           (GREATEST, GREATEST, GREATEST - 1), (HALF, HALF - 1, GREATEST), (GREATEST, 0, GREATEST)))

    def test_differences(self):
        self.compare("-", ((0, 0, 0), (3, 1, 2), (1, 3, GREATEST - 1), (0, 1, GREATEST), (0, GREATEST, 1),
                           (GREATEST, GREATEST, 0), (0, HALF, HALF), (GREATEST, 0, GREATEST), (HALF, 1, HALF - 1)))

    def test_products(self):
        self.compare("*", ((0, 0, 0), (6, 7, 42), (GREATEST, 0, 0), (GREATEST, 1, GREATEST), (HALF, 2, 0),
                           (HALF, 3, HALF), (GREATEST, GREATEST, 1), (GREATEST, 2, GREATEST - 1),
                           (2 ** 32, 2 ** 32, 0), (HALF, HALF, 0)))

    def test_bits(self):
        self.compare("&", ((12, 10, 8), (0, GREATEST, 0), (GREATEST, GREATEST, GREATEST), (HALF, GREATEST, HALF)))
        self.compare("|", ((12, 10, 14), (0, GREATEST, GREATEST), (HALF, HALF - 1, GREATEST), (0, 0, 0), (5, 5, 5)))
        self.compare("^", ((12, 10, 6), (0, GREATEST, GREATEST), (GREATEST, GREATEST, 0), (HALF, GREATEST, HALF - 1)))

    def test_less_and_equal(self):
        self.compare("<", ((1, 2, 1), (2, 1, 0), (2, 2, 0), (0, GREATEST, 1), (GREATEST, 0, 0), (HALF, HALF - 1, 0),
                           (HALF - 1, HALF, 1), (GREATEST, GREATEST, 0), (0, 0, 0)))
        self.compare("=", ((1, 2, 0), (2, 1, 0), (2, 2, 1), (0, GREATEST, 0), (GREATEST, GREATEST, 1), (0, 0, 1),
                           (HALF, HALF, 1)))


class All(unittest.TestCase):
    def compare(self, s, a, b):
        told = reckoned(s, a, b)
        self.assertEqual(told, expected(s, a, b), (a, s, b))
        self.assertIs(type(told), int, (a, s, b))
        self.assertTrue(0 <= told <= GREATEST, (a, s, b))

    def test_each_sign_at_the_edges(self):
        for s in SIGNS:
            for a in EDGES:
                for b in EDGES:
                    self.compare(s, a, b)

    def test_drawn_worths(self):
        source = random.Random(10)
        for count in range(500):
            a, b = source.getrandbits(source.choice((4, 33, 64))), source.getrandbits(source.choice((4, 33, 64)))
            for s in SIGNS:
                self.compare(s, a, b)
                self.compare(s, a, a)


if __name__ == "__main__":
    unittest.main()
