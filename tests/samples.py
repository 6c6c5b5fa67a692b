"""Programs that several tests ask about."""

import itertools

from lazyhoist.errors import NoProgram
from lazyhoist.programs import check

# Rows that do nothing to x + y, reckon it, reckon and then change it, change it.
END = ("end",)
SAY = ("say", "a")
RECKON = ("reckon", "z", "+", "x", "y")
BOTH = ("reckon", "x", "+", "x", "y")
COPY = ("copy", "x", 1)
SIGNS = ("+", "-", "*", "&", "|", "^", "<", "=")
# Each kind of row, a part forward and one back, and rows that several rows lead to. A tuple, so that no test
# can change it for the others: each takes its own list of it.
EACH_KIND = (
    ("copy", "n", 3),
    ("part", "n", 4),
    ("reckon", "x", "+", "a", "b"),
    ("go", 5),
    ("reckon", "x", "+", "b", "a"),
    ("say", "x"),
    ("reckon", "n", "-", "n", 1),
    ("part", "n", 1),
    ("end",),
)
# Programs of all shapes, by what is told apart by each.
SHAPES = {
    "each kind of row": EACH_KIND,
    "one row": (("end",),),
    "one row behind a go": (("go", 1), ("end",)),
    "no reckonings": (("copy", "x", "a"), ("part", "x", 3), ("say", "x"), ("copy", "x", 2), ("end",)),
    "parts and meets": (
        ("part", "c", 3),
        ("reckon", "x", "+", "a", "b"),
        ("go", 4),
        ("copy", "a", 7),
        ("reckon", "y", "+", "a", "b"),
        ("end",),
    ),
    "others lead to row 0": (
        ("reckon", "x", "*", "x", "y"),
        ("part", "c", 0),
        ("reckon", "z", "*", "x", "y"),
        ("part", "z", 0),
        ("go", 5),
        ("end",),
    ),
    "row 0 without a reckoning, led to again": (
        ("say", "x"),
        ("part", "x", 4),
        ("reckon", "x", "-", "a", 1),
        ("go", 0),
        ("reckon", "y", "-", "a", 1),
        ("end",),
    ),
    "a go as row 0": (
        ("go", 2),
        ("end",),
        ("reckon", "x", "+", "a", "b"),
        ("part", "x", 5),
        ("go", 1),
        ("reckon", "b", "+", "a", "b"),
        ("go", 3),
    ),
    "a go to row 0": (("part", "a", 3), ("reckon", "a", "&", "b", 1), ("go", 0), ("end",)),
    "several ends, ends amid": (
        ("part", "a", 3),
        ("reckon", "x", "<", "a", "b"),
        ("end",),
        ("part", "b", 6),
        ("reckon", "y", "<", "a", "b"),
        ("end",),
        ("copy", "a", "b"),
        ("end",),
    ),
    "a go as the last row": (
        ("part", "a", 3),
        ("reckon", "x", "|", "a", "b"),
        ("end",),
        ("reckon", "b", "|", "a", "b"),
        ("go", 1),
    ),
    "a part to its own row": (
        ("reckon", "x", "^", "a", "b"),
        ("part", "x", 1),
        ("part", "y", 0),
        ("reckon", "y", "^", "a", "b"),
        ("end",),
    ),
    "row 0 is a part to itself": (("part", "a", 0), ("reckon", "x", "=", "a", 0), ("say", "x"), ("end",)),
    "order and sign part reckonings": (
        ("reckon", "x", "-", "a", "b"),
        ("part", "c", 4),
        ("reckon", "x", "-", "b", "a"),
        ("go", 5),
        ("reckon", "x", "+", "a", "b"),
        ("reckon", "y", "-", "a", "b"),
        ("reckon", "y", "-", "b", "a"),
        ("reckon", "a", "+", "a", "b"),
        ("end",),
    ),
    "operands that are worths": (
        ("part", 1, 3),
        ("reckon", "x", "+", 1, 2),
        ("part", 0, 5),
        ("reckon", "y", "+", 1, 2),
        ("copy", "y", 3),
        ("say", "y"),
        ("end",),
    ),
    "round and round within another": (
        ("copy", "i", 3),
        ("copy", "j", 2),
        ("reckon", "x", "*", "a", "b"),
        ("reckon", "s", "+", "s", "x"),
        ("reckon", "j", "-", "j", 1),
        ("part", "j", 2),
        ("reckon", "i", "-", "i", 1),
        ("part", "i", 1),
        ("say", "s"),
        ("end",),
    ),
    "a dozen reckonings and more": tuple(
        [("part", "c", 9)]
        + [("reckon", "x", s, "a", "b") for s in SIGNS]
        + [("reckon", "a", s, "b", "a") for s in SIGNS]
        + [("part", "a", 1), ("end",)]
    ),
    "sixty rows": tuple(
        [("part", "c", n + 3) if n % 6 == 1 else ("reckon", "xyabc"[n % 5], SIGNS[n % 8], "ab"[n % 2], "bc"[n % 3 // 2])
         for n in range(56)]
        + [("part", "x", 2), ("say", "x"), ("part", 3, 57), ("end",)]
    ),
    # Each pair of rows leads to the pair written ahead of it, the first pair to the end.
    "back and back": tuple(
        [("go", 40), ("end",)]
        + [("reckon", "xa"[n % 4 // 2], "+", "a", n % 3) if n % 2 == 0 else ("go", max(n - 3, 1)) for n in range(2, 42)]
    ),
}


def shapes():
    """Each shape's name and a list of it that is the asker's own."""
    return [(name, list(rows)) for name, rows in SHAPES.items()]


def is_program(rows):
    try:
        check(rows)
    except NoProgram:
        return False
    return True


def drawn_row(source, n, size, names):
    kind = source.choice(("reckon", "reckon", "reckon", "copy", "say", "go", "part", "part", "end"))
    if n == size - 1:
        kind = source.choice(("go", "end"))
    operands = names + (0, 1)
    if kind == "reckon":
        return ("reckon", source.choice(names), source.choice("+-"), source.choice(operands), source.choice(operands))
    if kind == "copy":
        return ("copy", source.choice(names), source.choice(operands))
    if kind == "say":
        return ("say", source.choice(operands))
    if kind == "go":
        return ("go", source.randrange(size))
    if kind == "part":
        return ("part", source.choice(operands), source.randrange(size))
    return ("end",)


def drawn_programs(source, count, least, most, names=("a", "b", "c")):
    """Programs of least to most rows, drawn from a source of chance that was started with a written number."""
    told = []
    while len(told) < count:
        size = source.randint(least, most)
        rows = [drawn_row(source, n, size, names) for n in range(size)]
        if is_program(rows):
            told.append(rows)
    return told


# Rows that reckon x + y, reckon and change it, change it by a copy, and do neither.
SMALL_KINDS = (RECKON, BOTH, ("copy", "y", 1), SAY, END)


def small_programs(size):
    """All programs of so many rows of these kinds, go rows and parts, that reckon x + y."""
    kinds = list(SMALL_KINDS) + [("go", to) for to in range(size)] + [("part", "c", to) for to in range(size)]
    for rows in itertools.product(kinds, repeat=size):
        if (RECKON in rows or BOTH in rows) and is_program(list(rows)):
            yield list(rows)


def drawn_small(source, count, least, most):
    """Programs of such rows, drawn from a source of chance that was started with a written number."""
    told = []
    while len(told) < count:
        size = source.randint(least, most)
        kinds = list(SMALL_KINDS) + [("go", source.randrange(size))] + [("part", "c", to) for to in range(size)]
        rows = [source.choice(kinds) for n in range(size)]
        if (RECKON in rows or BOTH in rows) and is_program(rows):
            told.append(rows)
    return told
