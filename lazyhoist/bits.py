"""Bits: sets of reckonings as whole numbers, one for each row, and how they spread from row to row."""

from lazyhoist.programs import reckonings
from lazyhoist.rows import changes, reckoning_of


def bits_of(truths):
    bits = 0
    for k, there in enumerate(truths):
        if there:
            bits = bits | (1 << k)
    return bits


def every_bit(program):
    return bits_of([True for reckoning in reckonings(program)])


def reckoned_bits(program):
    told = reckonings(program)
    return [bits_of([reckoning_of(row) == reckoning for reckoning in told]) for row in program]


def changed_bits(program):
    told = reckonings(program)
    return [bits_of([changes(row, reckoning) for reckoning in told]) for row in program]


def spread(steps, made, passed):
    # The least bits that have what each row makes and, of what is at a row, all that each row it steps to lets pass.
    told = list(made)
    waiting = list(range(len(made)))
    while len(waiting) > 0:
        n = waiting.pop()
        for m in steps[n]:
            more = told[m] | (told[n] & passed[m])
            if more != told[m]:
                told[m] = more
                waiting.append(m)
    return told
