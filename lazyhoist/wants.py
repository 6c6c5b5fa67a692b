"""Wants: the places at which a reckoning is wanted, and ways that tell of one that it is not."""

from lazyhoist.bits import changed_bits, every_bit, reckoned_bits, spread
from lazyhoist.programs import all_followers, places, reckonings, turned
from lazyhoist.rows import changes, reckoning_of
from lazyhoist.ways import shortest_way


def wanted(program):
    every = every_bit(program)
    missing = unwanted_bits(program)
    told = {}
    for place in places(program):
        told[place] = every & ~missing[place[1]]
    return told


def unwanted_bits(program):
    # Each row leads to an end, so it is enough to go back from the rows at which a way of 13 may stop.
    every = every_bit(program)
    passed = [every & ~bits for bits in reckoned_bits(program)]
    stopping = changed_bits(program)
    made = []
    for n, row in enumerate(program):
        made.append(passed[n] if row[0] == "end" else passed[n] & stopping[n])
    return spread(turned(all_followers(program)), made, passed)


def unwanted(program, k, place):
    reckoning = reckonings(program)[k]
    goals = [row[0] == "end" or changes(row, reckoning) for row in program]
    barred = [reckoning_of(row) == reckoning for row in program]
    return shortest_way(all_followers(program), place[1], goals, barred)
