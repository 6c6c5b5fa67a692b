"""Offs: how far a reckoning is put off from its first places."""

from lazyhoist.bits import has_bit
from lazyhoist.firsts import firsts
from lazyhoist.programs import places, reached, rows_that_reckon, truths_of


def put_off(program, k, stops=None):
    return put_off_from(program, k, firsts(program), [] if stops is None else stops)


def put_off_from(program, k, firsts_at, stops):
    begins = truths_of([place for place in places(program) if has_bit(firsts_at[place], k)])
    passed = rows_passed(program, k)
    out = rows_out(program, begins, passed, truths_of(stops))
    told = []
    for place in places(program):
        n = place[0]
        if place in begins or (n in passed and n not in out):
            told.append(place)
    return (told, [m for m in range(len(program)) if m not in out])


def rows_passed(program, k):
    # The rows by which places behind them are put off: not those that reckon it, and none ahead of the run.
    reckoning = truths_of(rows_that_reckon(program, k))
    return truths_of([n for n in range(len(program)) if n not in reckoning])


def rows_out(program, begins, passed, stopped):
    # The greatest set is what is left by the least one of rows that can't be in it. This one grows from the rows to
    # which a stop leads, or a place that nothing puts off, through the places that hang on the row ahead of them.
    starts = []
    steps = [[] for row in program]
    for place in places(program):
        n = place[0]
        if place in stopped or (place not in begins and n not in passed):
            starts.append(place[1])
        elif place not in begins:
            steps[n].append(place[1])
    return reached(steps, starts)
