"""What points 17 to 24 say, told slowly: by all ways of a small program, and by the points' own words."""

import itertools

from lazyhoist.programs import check, followers, places, reckonings
from lazyhoist.rows import changes, reckoning_of
from tests.allways import ways_from

HOWS = ("own", "keep", "read")


def rows_reckoning(program, k):
    reckoning = reckonings(program)[k]
    return [n for n, row in enumerate(program) if reckoning_of(row) == reckoning]


def rows_changing(program, k):
    reckoning = reckonings(program)[k]
    return [n for n, row in enumerate(program) if changes(row, reckoning)]


def pairs(way):
    return list(zip(way, way[1:]))


def gone_through(way):
    """The places that a way goes through, by 9."""
    return ([(-1, 0)] if way[:1] == [0] else []) + pairs(way)


def is_way_of(program, way):
    return len(way) > 0 and way[0] in range(len(program)) and all(m in followers(program, n) for n, m in pairs(way))


def all_subsets(things):
    return [some for size in range(len(things) + 1) for some in itertools.combinations(things, size)]


def all_papers(program, k):
    """All papers of the form of 17, let by or not."""
    rows = rows_reckoning(program, k)
    return [
        (kept, tuple(zip(rows, hows)))
        for kept in all_subsets(places(program)) for hows in itertools.product(HOWS, repeat=len(rows))]


def drawn_paper(source, program, k, kept_at=None):
    kept_at = places(program) if kept_at is None else kept_at
    share = source.choice((0, 0.2, 0.5, 0.8, 1))
    return (
        tuple(place for place in kept_at if source.random() < share),
        tuple((n, source.choice(HOWS)) for n in rows_reckoning(program, k)))


def paper_by_words(program, kept, hows, k=0):
    """A paper with these kept places, and for the rows that reckon it the words of its hows, one behind another."""
    check(program)
    return (tuple(kept), tuple(zip(rows_reckoning(program, k), hows.split(), strict=True)))


def some_stops(source, program):
    share = source.choice((0.1, 0.3, 0.6))
    return [place for place in places(program) if source.random() < share]


def may_be_put_off(program, k, stops, first_places, places_in, rows_in):
    """Whether nothing in these speaks against 18; the greatest of such sets is the one asked for."""
    reckoning = rows_reckoning(program, k)
    for n, m in places_in:
        if (n, m) not in first_places and not (n in rows_in and n not in reckoning):
            return False
    for m in rows_in:
        leading = [place for place in places(program) if place[1] == m]
        if not all(place in places_in and place not in stops for place in leading):
            return False
    return True


def put_off_slowly(program, k, stops, first_places):
    """All places and rows, less what speaks against itself, one behind another, until nothing does."""
    reckoning = rows_reckoning(program, k)
    places_in, rows_in = places(program), list(range(len(program)))
    while True:
        wrong_places = [
            (n, m) for n, m in places_in
            if (n, m) not in first_places and not (n in rows_in and n not in reckoning)]
        wrong_rows = [
            m for m in rows_in for place in places(program)
            if place[1] == m and (place not in places_in or place in stops)]
        if not wrong_places and not wrong_rows:
            return (places_in, rows_in)
        places_in = [place for place in places_in if place not in wrong_places[:1]]
        rows_in = [m for m in rows_in if m not in wrong_rows[:1]]


def paper_slowly(program, k, off, ways_by_row):
    """Point 19, of what is put off: ways_by_row has all ways from each row, long enough to come to every other."""
    kept = tuple(place for place in off[0] if place[1] not in off[1])
    reckoning, changing = rows_reckoning(program, k), rows_changing(program, k)

    def leads_on(way):
        return (
            len(way) > 1 and way[-1] in reckoning and way[-1] not in off[1]
            and not any(place in kept for place in pairs(way))
            and not any(n in changing or (n in reckoning and n in off[1]) for n in way[1:-1]))

    def how(n):
        if n not in off[1]:
            return "read"
        if n not in changing and any(leads_on(way) for way in ways_by_row[n]):
            return "keep"
        return "own"

    return (kept, tuple((n, how(n)) for n in reckoning))


def live_slowly(program, k, paper, ways_by_row):
    kept, hows, changing = paper[0], dict(paper[1]), rows_changing(program, k)

    def leads_to_reading(way):
        return (
            hows.get(way[-1]) == "read" and not any(place in kept for place in pairs(way))
            and not any(hows.get(n) == "keep" or n in changing for n in way[:-1]))

    return [place for place in places(program) if any(leads_to_reading(way) for way in ways_by_row[place[1]])]


def holds_on(program, k, paper, way):
    """Whether the box holds at the last place of a beginning: it was put, and nothing from there on changes it."""
    kept, hows, changing = paper[0], dict(paper[1]), rows_changing(program, k)
    through = gone_through(way)
    for i in range(len(way)):
        unchanged = not any(n in changing for n in way[i:-1])
        if unchanged and (through[i] in kept or (i < len(way) - 1 and hows.get(way[i]) == "keep")):
            return True
    return False


def held_slowly(program, k, paper, beginnings):
    not_held = {gone_through(way)[-1] for way in beginnings if not holds_on(program, k, paper, way)}
    return [place for place in places(program) if place not in not_held]


def is_empty_way(program, k, paper, n, way):
    """Whether the way tells, as in 21, that the box is empty at row n, which reads."""
    if not is_way_of(program, way) or way[0] != 0 or way[-1] != n:
        return False
    kept, hows, changing = paper[0], dict(paper[1]), rows_changing(program, k)
    changed = [i for i, m in enumerate(way[:-1]) if m in changing]
    behind = way[changed[-1] + 1:] if changed else way
    through = pairs(way[changed[-1]:]) if changed else gone_through(way)
    return not any(place in kept for place in through) and not any(hows.get(m) == "keep" for m in behind[:-1])


def refused_slowly(program, k, paper, wanted_at, held_at):
    """The word and at of 21, of a paper of the form of 17, or None."""
    for place in paper[0]:
        if not wanted_at[place] >> k & 1:
            return ("unwanted", place)
    for n, how in paper[1]:
        if how == "read" and not all(place in held_at for place in places(program) if place[1] == n):
            return ("empty", n)
    return None


def counted_slowly(paper, way):
    """Point 23, of a way."""
    kept, hows = paper[0], dict(paper[1])
    return sum(place in kept for place in gone_through(way)) + sum(hows.get(n) in ("own", "keep") for n in way)


def whole_ways(program, most):
    """All whole ways of at most so many rows."""
    return [way for way in ways_from(program, 0, most) if program[way[-1]] == ("end",)]


def differences(program, one, other):
    """Of each row and each place how often the one reckons there, less how often the other one does."""
    hows = dict(one[1]), dict(other[1])
    rows = [
        sum(sign * (how.get(n) in ("own", "keep")) for sign, how in zip((1, -1), hows)) for n in range(len(program))]
    return rows, {place: (place in one[0]) - (place in other[0]) for place in places(program)}


def shows_never(program, one, other, numbers):
    """Whether the numbers show, as in 26, that the one reckons on no whole way less often."""
    if len(numbers) != len(program):
        return False
    rows, at = differences(program, one, other)
    return (
        numbers[0] <= at[-1, 0]
        and all(numbers[m] <= numbers[n] + rows[n] + at[n, m] for n, m in places(program) if n != -1)
        and all(numbers[n] + rows[n] >= 0 for n, row in enumerate(program) if row == ("end",)))


def least_difference(program, one, other):
    """The least that the one reckons more often on a whole way of any length, or None where there is no least one."""
    rows, at = differences(program, one, other)
    numbers = {0: at[-1, 0]}
    for count in range(len(program) + 1):
        lowered = dict(numbers)
        for n, m in places(program):
            if n in numbers:
                lowered[m] = min(lowered.get(m, 10 ** 9), numbers[n] + rows[n] + at[n, m])
        if lowered == numbers:
            return min(numbers[n] for n, row in enumerate(program) if row == ("end",))
        numbers = lowered
    return None
