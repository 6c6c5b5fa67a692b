"""Lives: the places at which a paper's box is live."""

from lazyhoist.programs import places, reached, reckonings, truths_of, turned
from lazyhoist.rows import changes


def live(program, k, paper):
    ahead_of = live_rows(program, k, paper)
    return [place for place in places(program) if place[1] in ahead_of]


def live_rows(program, k, paper):
    # The rows ahead of which it is live. What is kept at a place is asked of the row ahead of it alone, so all places
    # that lead to a row are live or none is.
    reading = [n for n, how in paper[1] if how == "read"]
    return reached(turned(steps_unput(program, k, paper)), reading)


def steps_unput(program, k, paper):
    # Of each row the followers to which the box comes as it came to this row: neither put nor out of date between.
    reckoning = reckonings(program)[k]
    kept = truths_of(paper[0])
    hows = dict(paper[1])
    told = [[] for row in program]
    for place in places(program):
        n = place[0]
        if n != -1 and place not in kept and hows.get(n) != "keep" and not changes(program[n], reckoning):
            told[n].append(place[1])
    return told
