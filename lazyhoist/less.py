"""Less: whether one paper reckons less often than another on some whole way."""

from lazyhoist.counts import counted, rows_that_reckon_still
from lazyhoist.programs import places
from lazyhoist.ways import way_back, way_on, way_to


def less_often(program, k, one, other):
    weights = step_weights(program, one, other)
    numbers = {0: weights[(-1, 0)]}
    came_from = {0: None}
    late = settle(len(program), weights, numbers, came_from)
    if late is not None:
        return ("way", way_round(program, k, one, other, ring_of(len(program), came_from, late)))
    for n, row in enumerate(program):
        # An end itself reckons nothing, so the number that it has is that of the whole way.
        if row[0] == "end" and numbers[n] < 0:
            return ("way", way_back(came_from, n))
    return ("never", [numbers[n] for n in range(len(program))])


def step_weights(program, one, other):
    # What each place adds: its own difference, and that of the row ahead of it.
    at_places = differences(one[0], other[0])
    at_rows = differences(rows_that_reckon_still(one), rows_that_reckon_still(other))
    told = {}
    for place in places(program):
        told[place] = at_places.get(place, 0) + at_rows.get(place[0], 0)
    return told


def differences(ones, others):
    told = {}
    for thing in ones:
        told[thing] = 1
    for thing in others:
        told[thing] = told.get(thing, 0) - 1
    return told


def settle(size, weights, numbers, came_from):
    # What is least on ways without a row twice is found in fewer rounds than there are rows: a row that is lowered
    # in the last of so many is told, as a ring leads to it that is lower each time it is gone round.
    late = None
    for count in range(size):
        late = lower_numbers(weights, numbers, came_from)
        if late is None:
            return None
    return late


def lower_numbers(weights, numbers, came_from):
    late = None
    for place, weight in weights.items():
        n = place[0]
        m = place[1]
        if n in numbers and (m not in numbers or numbers[n] + weight < numbers[m]):
            numbers[m] = numbers[n] + weight
            came_from[m] = n
            late = m
    return late


def ring_of(size, came_from, late):
    # So many steps back from there lie on the ring, wherever it was entered.
    n = late
    for count in range(size):
        n = came_from[n]
    ring = [n]
    m = came_from[n]
    while m != n:
        ring.append(m)
        m = came_from[m]
    ring.reverse()
    return ring


def way_round(program, k, one, other, ring):
    # Each round lowers the difference, so it is gone round until what the way there and the way on add is outweighed.
    to = way_to(program, ring[-1])
    on = way_on(program, ring[-1])[1:]
    more = more_often(program, k, one, other, to + on)
    lowered = more - more_often(program, k, one, other, to + ring + on)
    rounds = max(more, 0) // lowered + 1
    return to + ring * rounds + on


def more_often(program, k, one, other, way):
    return counted(program, k, one, way) - counted(program, k, other, way)
