"""Whole: from text to text, and what is saved on a run."""

from lazyhoist.counts import counted, tally
from lazyhoist.laying import moved
from lazyhoist.papers import last_papers
from lazyhoist.programs import check
from lazyhoist.runs import run
from lazyhoist.texts import read, show


def hoisted(text):
    program = read(text)
    check(program)
    return show(moved(program))


def saving(program, names, most=1000):
    way = run(program, names, most)[3]
    lasts = last_papers(program)
    return [often - counted(program, k, lasts[k], way) for k, often in enumerate(tally(program, way))]
