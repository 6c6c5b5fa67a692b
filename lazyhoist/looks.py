"""Looks: where a paper's box holds, and which papers are let by."""

from lazyhoist.bits import has_bit
from lazyhoist.errors import NoPaper
from lazyhoist.lives import steps_unput
from lazyhoist.programs import places, reached, reckonings, rows_that_reckon, truths_of, turned
from lazyhoist.rows import changes
from lazyhoist.wants import unwanted, wanted
from lazyhoist.ways import shortest_way, way_to

HOWS = ("own", "keep", "read")


def held(program, k, paper):
    begins = emptying_places(program, k, paper)
    steps = steps_unput(program, k, paper)
    empty = empty_rows(begins, steps)
    told = []
    for place in places(program):
        n = place[0]
        if place not in begins and not (n in empty and place[1] in steps[n]):
            told.append(place)
    return told


def emptying_places(program, k, paper):
    # The places at which the box does not hold whatever was done ahead: the run begins so, and behind a row that
    # changes the reckoning it is so, even if this row has just put it.
    reckoning = reckonings(program)[k]
    kept = truths_of(paper[0])
    told = []
    for place in places(program):
        if place not in kept and (place[0] == -1 or changes(program[place[0]], reckoning)):
            told.append(place)
    return truths_of(told)


def empty_rows(begins, steps):
    return reached(steps, [m for n, m in begins])


def look(program, k, paper):
    if not is_of_form(program, k, paper):
        raise NoPaper("form", None, None)
    wanted_at = wanted(program)
    for place in paper[0]:
        if not has_bit(wanted_at[place], k):
            raise NoPaper("unwanted", place, unwanted(program, k, place))
    begins = emptying_places(program, k, paper)
    steps = steps_unput(program, k, paper)
    empty = empty_rows(begins, steps)
    for n, how in paper[1]:
        if how == "read" and n in empty:
            raise NoPaper("empty", n, empty_way(program, begins, steps, n))


def is_of_form(program, k, paper):
    kept = truths_of(paper[0])
    if paper[0] != tuple([place for place in places(program) if place in kept]):
        return False
    if [n for n, how in paper[1]] != rows_that_reckon(program, k):
        return False
    return all([how in HOWS for n, how in paper[1]])


def empty_way(program, begins, steps, n):
    # Sought from the row that reads back to a place at which the box is empty, as from there on nothing may put it.
    goals = [False for row in program]
    for place in begins:
        goals[place[1]] = True
    way = shortest_way(turned(steps), n, goals, [False for row in program])
    way.reverse()
    ahead = [place[0] for place in begins if place[1] == way[0]][0]
    return way if ahead == -1 else way_to(program, ahead) + way
