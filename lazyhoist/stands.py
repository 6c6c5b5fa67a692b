"""Stands: the places at which a reckoning is standing, and ways that tell of one that it is not."""

from lazyhoist.bits import changed_bits, every_bit, reckoned_bits, spread
from lazyhoist.programs import all_followers, places, reckonings, turned
from lazyhoist.rows import changes, reckoning_of
from lazyhoist.ways import shortest_way


def standing(program):
    every = every_bit(program)
    missing = unstanding_bits(program)
    told = {}
    for place in places(program):
        told[place] = 0 if place[0] == -1 else every & ~missing[place[0]]
    return told


def unstanding_bits(program):
    every = every_bit(program)
    passed = [every & ~bits for bits in reckoned_bits(program)]
    made = changed_bits(program)
    # Whatever else leads to row 0, a run comes to it first with nothing reckoned.
    made[0] = made[0] | passed[0]
    return spread(all_followers(program), made, passed)


def unstanding(program, k, place):
    if place[0] == -1:
        return []
    reckoning = reckonings(program)[k]
    goals = []
    barred = []
    for n, row in enumerate(program):
        reckons = reckoning_of(row) == reckoning
        goals.append(changes(row, reckoning) or (n == 0 and not reckons))
        barred.append(reckons and not changes(row, reckoning))
    # Sought from row n back, as the way's last row is known and its first is not.
    way = shortest_way(turned(all_followers(program)), place[0], goals, barred)
    if way is None:
        return None
    way.reverse()
    return way
