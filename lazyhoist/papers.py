"""Papers: where a reckoning is kept, and how each row that reckons it does it."""

from lazyhoist.firsts import firsts
from lazyhoist.lives import live_rows
from lazyhoist.offs import put_off, put_off_from
from lazyhoist.programs import followers, reckonings, rows_that_reckon, truths_of
from lazyhoist.rows import changes


def still(program, k):
    return ((), tuple([(n, "own") for n in rows_that_reckon(program, k)]))


def paper(program, k, stops=None):
    return paper_of(program, k, put_off(program, k, stops))


def last_papers(program):
    # The first places are asked for once for all reckonings: of a long program that alone takes most of the time.
    firsts_at = firsts(program)
    return [paper_of(program, k, put_off_from(program, k, firsts_at, [])) for k in range(len(reckonings(program)))]


def paper_of(program, k, off):
    rows_off = truths_of(off[1])
    kept = tuple([place for place in off[0] if place[1] not in rows_off])
    # No way of 19 goes through a row that is put off and reckons: so does no live one, where all these are keep.
    draft = (kept, tuple([(n, "keep" if n in rows_off else "read") for n in rows_that_reckon(program, k)]))
    wanting = live_rows(program, k, draft)
    reckoning = reckonings(program)[k]
    hows = []
    for n, how in draft[1]:
        if how == "keep" and (changes(program[n], reckoning) or not is_read_behind(program, n, kept, wanting)):
            hows.append((n, "own"))
        else:
            hows.append((n, how))
    return (kept, tuple(hows))


def is_read_behind(program, n, kept, wanting):
    return any([m in wanting and (n, m) not in kept for m in followers(program, n)])
