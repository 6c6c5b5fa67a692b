"""Firsts: the first places of a reckoning."""

from lazyhoist.bits import changed_bits, every_bit, reckoned_bits
from lazyhoist.programs import followers, places
from lazyhoist.stands import standing
from lazyhoist.wants import wanted


def firsts(program):
    wanted_at = wanted(program)
    standing_at = standing(program)
    starting = starting_bits(program, wanted_at)
    told = {}
    for place in places(program):
        may_start = every_bit(program) if place[0] == -1 else starting[place[0]]
        told[place] = wanted_at[place] & ~standing_at[place] & may_start
    return told


def starting_bits(program, wanted_at):
    # The reckonings that could not be put ahead of a row in the place of behind it: it changes them, or not every
    # place behind it wants them.
    every = every_bit(program)
    reckoned = reckoned_bits(program)
    changed = changed_bits(program)
    told = []
    for n in range(len(program)):
        missing = 0
        for f in followers(program, n):
            missing = missing | (every & ~wanted_at[(n, f)])
        told.append(changed[n] | (missing & ~reckoned[n]))
    return told
