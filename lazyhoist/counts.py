"""Counts: how often a paper, and the rows of a program, reckon on a way."""

from lazyhoist.programs import reckonings, truths_of
from lazyhoist.rows import reckoning_of
from lazyhoist.ways import places_through


def counted(program, k, paper, way):
    kept = truths_of(paper[0])
    reckoning = truths_of(rows_that_reckon_still(paper))
    at_places = [place for place in places_through(way) if place in kept]
    at_rows = [n for n in way if n in reckoning]
    return len(at_places) + len(at_rows)


def rows_that_reckon_still(paper):
    return [n for n, how in paper[1] if how == "own" or how == "keep"]


def tally(program, way):
    by_reckoning = {}
    for reckoning in reckonings(program):
        by_reckoning[reckoning] = 0
    for n in way:
        reckoning = reckoning_of(program[n])
        if reckoning is not None:
            by_reckoning[reckoning] = by_reckoning[reckoning] + 1
    return list(by_reckoning.values())
