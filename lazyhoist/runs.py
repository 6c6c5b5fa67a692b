"""Runs: what a program says, how it ends, and the way that it takes."""

from lazyhoist.programs import followers
from lazyhoist.worths import reckoned


def run(program, names, most=1000):
    worths = dict(names)
    said = []
    way = []
    n = 0
    while len(way) < most:
        way.append(n)
        if program[n][0] == "end":
            return ("end", said, without_noughts(worths), way)
        do_row(program[n], worths, said)
        n = row_behind(program, n, worths)
    return ("spent", said, without_noughts(worths), way)


def do_row(row, worths, said):
    if row[0] == "reckon":
        worths[row[1]] = reckoned(row[2], worth_of(row[3], worths), worth_of(row[4], worths))
    if row[0] == "copy":
        worths[row[1]] = worth_of(row[2], worths)
    if row[0] == "say":
        said.append(worth_of(row[1], worths))


def row_behind(program, n, worths):
    row = program[n]
    behind = followers(program, n)
    if row[0] == "part" and worth_of(row[1], worths) != 0:
        return behind[1]
    return behind[0]


def worth_of(operand, worths):
    if isinstance(operand, str):
        return worths.get(operand, 0)
    return operand


def without_noughts(worths):
    told = {}
    for name, worth in worths.items():
        if worth != 0:
            told[name] = worth
    return told
