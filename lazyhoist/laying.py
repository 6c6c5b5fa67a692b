"""Laying: programs that do what papers tell."""

from lazyhoist.looks import look
from lazyhoist.papers import last_papers, still
from lazyhoist.programs import reckonings, truths_of
from lazyhoist.rows import reckoning_of, target_of, with_target


def laid(program, papers):
    boxes = boxes_of(program, papers)
    for k, box in enumerate(boxes):
        if box is not None:
            look(program, k, papers[k])
    kept = kept_rows(program, papers, boxes)
    return joined(kept.get((-1, 0), []), blocks_of(program, kept, hows_of(papers, boxes)))


def moved(program):
    return laid(program, last_papers(program))


def boxes_of(program, papers):
    taken = words_in(program)
    number = 0
    told = []
    for k, one in enumerate(papers):
        if one is None or one == still(program, k):
            told.append(None)
        else:
            while f"box{number}" in taken:
                number = number + 1
            told.append(f"box{number}")
            number = number + 1
    return told


def words_in(program):
    told = {}
    for row in program:
        told.update(truths_of(row))
    return told


def kept_rows(program, papers, boxes):
    told = {}
    for k, reckoning in enumerate(reckonings(program)):
        if boxes[k] is not None:
            for place in papers[k][0]:
                told.setdefault(place, []).append(("reckon", boxes[k]) + reckoning)
    return told


def hows_of(papers, boxes):
    told = {}
    for k, box in enumerate(boxes):
        if box is not None:
            for n, how in papers[k][1]:
                told[n] = (how, box)
    return told


def blocks_of(program, kept, hows):
    # For each row those that stand for it, with what is kept behind it. What is kept where a part leads aside stands
    # behind all of them, in a block of its own that the part leads to: there no other row comes by.
    blocks = []
    asides = []
    for n, row in enumerate(program):
        if row[0] == "part" and (n, row[2]) in kept:
            blocks.append(block_of(n, with_target(row, len(program) + len(asides)), kept, hows))
            asides.append(kept[(n, row[2])] + [("go", row[2])])
        else:
            blocks.append(block_of(n, row, kept, hows))
    return blocks + asides


def block_of(n, row, kept, hows):
    if row[0] == "go":
        # Ahead of the go, as nothing comes behind it but what it leads to.
        return kept.get((n, row[1]), []) + [row]
    return done_as(row, hows.get(n, ("own", None))) + kept.get((n, n + 1), [])


def done_as(row, how_and_box):
    how = how_and_box[0]
    box = how_and_box[1]
    if how == "own":
        return [row]
    copied = ("copy", row[1], box)
    if how == "read":
        return [copied]
    return [("reckon", box) + reckoning_of(row), copied]


def joined(ahead, blocks):
    # The rows of all blocks, turned from the blocks' numbers to those of their first rows.
    starts = []
    size = len(ahead)
    for block in blocks:
        starts.append(size)
        size = size + len(block)
    told = list(ahead)
    for block in blocks:
        for row in block:
            to = target_of(row)
            told.append(row if to is None else with_target(row, starts[to]))
    return told
