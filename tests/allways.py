"""What points 12 to 16 say, told slowly: by all ways of a small program, or by each row and the rows beside it."""

from lazyhoist.programs import check, followers, places, reckonings
from lazyhoist.rows import changes, reckoning_of
from tests.samples import END


def ways_from(program, n, most):
    """All ways of at most so many rows whose first row is n."""
    told, longest = [[n]], [[n]]
    for count in range(most - 1):
        longest = [way + [m] for way in longest for m in followers(program, way[-1])]
        told.extend(longest)
    return told


def enough(program):
    """Where a way speaks against 12 or 14, one of no more rows does: up to the row that decides it has no row twice,
    and none from there on."""
    return 2 * len(program)


def reckons(program, n, reckoning):
    return reckoning_of(program[n]) == reckoning


def wanted_on(program, way, reckoning):
    """On the way a row reckons it, and no row ahead of this one changes it."""
    return any(
        reckons(program, n, reckoning) and not any(changes(program[m], reckoning) for m in way[:k])
        for k, n in enumerate(way))


def standing_on(program, way, reckoning):
    """On the way some row reckons it, and neither this row nor one behind it changes it."""
    return any(
        reckons(program, n, reckoning) and not any(changes(program[m], reckoning) for m in way[k:])
        for k, n in enumerate(way))


def numbers_in(bits):
    return [k for k in range(bits.bit_length()) if bits >> k & 1]


def bits_with(numbers):
    return sum(1 << k for k in numbers)


def places_with(ask, program, k):
    """The places of a program at which what is asked for has bit k, in order; it must have just these places."""
    check(program)
    told = ask(program)
    if set(told) != set(places(program)):
        raise AssertionError("other places are told")
    return [place for place in places(program) if told[place] >> k & 1]


def wanted_slowly(program):
    told = {}
    by_row = []
    for m in range(len(program)):
        ways = [way for way in ways_from(program, m, enough(program)) if program[way[-1]] == END]
        by_row.append(bits_with(
            k for k, reckoning in enumerate(reckonings(program))
            if all(wanted_on(program, way, reckoning) for way in ways)))
    for place in places(program):
        told[place] = by_row[place[1]]
    return told


def standing_slowly(program):
    told = {}
    beginnings = ways_from(program, 0, enough(program))
    for n, m in places(program):
        ways = [way for way in beginnings if way[-1] == n]
        told[n, m] = bits_with(
            k for k, reckoning in enumerate(reckonings(program))
            if n != -1 and all(standing_on(program, way, reckoning) for way in ways))
    return told


def firsts_slowly(program, wanted_at, standing_at):
    """Point 16, of what 12 and 14 tell."""
    told = {}
    for n, m in places(program):
        numbers = []
        for k, reckoning in enumerate(reckonings(program)):
            if wanted_at[n, m] >> k & 1 and not standing_at[n, m] >> k & 1:
                if n == -1 or changes(program[n], reckoning):
                    numbers.append(k)
                elif not reckons(program, n, reckoning) and not all(
                        wanted_at[n, f] >> k & 1 for f in followers(program, n)):
                    numbers.append(k)
        told[n, m] = bits_with(numbers)
    return told


def is_unwanted_way(program, k, place, way):
    """Whether the way is as in 13, with no row twice."""
    reckoning = reckonings(program)[k]
    if len(way) == 0 or way[0] != place[1] or len(set(way)) != len(way):
        return False
    if any(m not in followers(program, n) for n, m in zip(way, way[1:])):
        return False
    if any(reckons(program, n, reckoning) for n in way):
        return False
    return program[way[-1]] == END or changes(program[way[-1]], reckoning)


def is_unstanding_way(program, k, place, way):
    """Whether the way is as in 15, with no row twice."""
    reckoning = reckonings(program)[k]
    if place == (-1, 0):
        return way == []
    if len(way) == 0 or way[-1] != place[0] or len(set(way)) != len(way):
        return False
    if any(m not in followers(program, n) for n, m in zip(way, way[1:])):
        return False
    if any(reckons(program, n, reckoning) for n in way[1:]):
        return False
    return changes(program[way[0]], reckoning) or (way[0] == 0 and not reckons(program, 0, reckoning))


def holds_wanted(program, wanted_at):
    """Whether row by row nothing speaks against what is told as wanted: then on no way to an end anything does."""
    for n, m in wanted_at:
        for k in numbers_in(wanted_at[n, m]):
            reckoning = reckonings(program)[k]
            if not reckons(program, m, reckoning):
                if program[m] == END or changes(program[m], reckoning):
                    return False
                if not all(wanted_at[m, f] >> k & 1 for f in followers(program, m)):
                    return False
    return True


def holds_standing(program, standing_at):
    """The same, from row to row ahead, of what is told as standing."""
    for n, m in standing_at:
        for k in numbers_in(standing_at[n, m]):
            reckoning = reckonings(program)[k]
            if n == -1 or changes(program[n], reckoning):
                return False
            if not reckons(program, n, reckoning):
                if not all(standing_at[ahead] >> k & 1 for ahead in places(program) if ahead[1] == n):
                    return False
    return True
