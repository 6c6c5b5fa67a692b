"""Programs that several tests ask about."""

# Each kind of row, a part forward and one back, and rows that several rows lead to. A tuple, so that no test
# can change it for the others: each takes its own list of it.
EACH_KIND = (
    ("copy", "n", 3),
    ("part", "n", 4),
    ("reckon", "x", "+", "a", "b"),
    ("go", 5),
    ("reckon", "x", "+", "b", "a"),
    ("say", "x"),
    ("reckon", "n", "-", "n", 1),
    ("part", "n", 1),
    ("end",),
)
