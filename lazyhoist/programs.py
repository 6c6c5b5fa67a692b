"""Programs: which lists of rows are one, and their followers, places and reckonings."""

from lazyhoist.errors import NoProgram
from lazyhoist.rows import is_row, reckoning_of, target_of


def followers(program, n):
    row = program[n]
    if row[0] == "end":
        return []
    if row[0] == "go":
        return [row[1]]
    if row[0] == "part":
        return [n + 1, row[2]]
    return [n + 1]


def all_followers(program):
    return [followers(program, n) for n in range(len(program))]


def places(program):
    told = [(-1, 0)]
    for n, targets in enumerate(all_followers(program)):
        for m in targets:
            told.append((n, m))
    return told


def leading(program, m):
    return [place for place in places(program) if place[1] == m]


def reckonings(program):
    # A dict keeps the order in which keys came first, which is the order asked for.
    told = {}
    for row in program:
        reckoning = reckoning_of(row)
        if reckoning is not None:
            told[reckoning] = True
    return list(told)


def rows_that_reckon(program, k):
    reckoning = reckonings(program)[k]
    return [n for n, row in enumerate(program) if reckoning_of(row) == reckoning]


def check(rows):
    check_rows(rows)
    onward = all_followers(rows)
    check_all_in("apart", len(rows), reached(onward, [0]))
    ends = [n for n in range(len(rows)) if rows[n][0] == "end"]
    check_all_in("endless", len(rows), reached(turned(onward), ends))


def check_rows(rows):
    for n, thing in enumerate(rows):
        if not may_stand(thing, n, len(rows)):
            raise NoProgram("row", n)
    if len(rows) == 0:
        raise NoProgram("row", 0)
    last = len(rows) - 1
    if rows[last][0] != "go" and rows[last][0] != "end":
        raise NoProgram("row", last)


def may_stand(thing, n, size):
    if not is_row(thing):
        return False
    to = target_of(thing)
    if to is None:
        return True
    # A part to the next row would have one follower twice, and so one place twice.
    return to < size and not (thing[0] == "part" and to == n + 1)


def check_all_in(word, size, numbers):
    for n in range(size):
        if n not in numbers:
            raise NoProgram(word, n)


def reached(steps, starts):
    # Not by calls within calls: a program that was laid may be longer than these may go deep.
    seen = truths_of(starts)
    waiting = list(starts)
    while len(waiting) > 0:
        n = waiting.pop()
        for m in steps[n]:
            if m not in seen:
                seen[m] = True
                waiting.append(m)
    return seen


def truths_of(things):
    # A dict of these in the place of a set: whether a thing is in it is told at once, however many there are.
    told = {}
    for thing in things:
        told[thing] = True
    return told


def turned(steps):
    back = [[] for n in range(len(steps))]
    for n, targets in enumerate(steps):
        for m in targets:
            back[m].append(n)
    return back
