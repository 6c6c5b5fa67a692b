"""Bits: sets of reckonings as whole numbers, one for each row, and how they spread from row to row."""

from lazyhoist.programs import reckonings
from lazyhoist.rows import changes, reckoning_of, sets


def bits_of(truths):
    bits = 0
    for k, there in enumerate(truths):
        if there:
            bits = bits | (1 << k)
    return bits


def has_bit(bits, k):
    return (bits >> k) & 1 == 1


def every_bit(program):
    return bits_of([True for reckoning in reckonings(program)])


def reckoned_bits(program):
    by_reckoning = {}
    for k, reckoning in enumerate(reckonings(program)):
        by_reckoning[reckoning] = 1 << k
    return [by_reckoning.get(reckoning_of(row), 0) for row in program]


def changed_bits(program):
    # Rows that set the same name change the same, so each name is asked about once: a program that was laid is long.
    told = reckonings(program)
    by_name = {}
    bits = []
    for row in program:
        name = sets(row)
        if name not in by_name:
            by_name[name] = bits_of([changes(row, reckoning) for reckoning in told])
        bits.append(by_name[name])
    return bits


def spread(steps, made, passed):
    # The least bits that have what each row makes and, of what is at a row, all that each row it steps to lets pass.
    told = list(made)
    waiting = list(range(len(made)))
    while len(waiting) > 0:
        n = waiting.pop()
        for m in steps[n]:
            more = told[m] | (told[n] & passed[m])
            if more != told[m]:
                told[m] = more
                waiting.append(m)
    return told
