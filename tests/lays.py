"""What points 27 and 28 say of a program into which papers are laid, told by rows, by ways and by runs."""

from collections import Counter

from lazyhoist.papers import still
from lazyhoist.programs import check, followers, reckonings
from lazyhoist.rows import is_name, reckoning_of
from lazyhoist.runs import run
from tests.allpapers import counted_slowly, gone_through


def written_out(program, papers):
    """The papers, with the still one where None stands."""
    return [still(program, k) if told is None else told for k, told in enumerate(papers)]


def names_in(program):
    return {thing for row in program for thing in row[1:] if is_name(thing)}


def boxes_in(program, papers, laid_in):
    """The box of each reckoning, or None; what else is new in the program that was laid is wrong."""
    fresh = names_in(laid_in) - names_in(program)
    told = []
    for k, reckoning in enumerate(reckonings(program)):
        rows = [row for row in laid_in if reckoning_of(row) == reckoning and row[1] in fresh]
        read = [row[1] for n, row in enumerate(program) if dict(papers[k][1]).get(n) == "read"]
        if papers[k] == still(program, k):
            assert rows == [], "a still paper has a box"
            told.append(None)
        else:
            names = {row[1] for row in rows}
            assert len(names) == 1, ("one box for a reckoning", names, read)
            told.append(names.pop())
    boxes = [box for box in told if box is not None]
    assert len(set(boxes)) == len(boxes), "two reckonings have one box"
    assert set(boxes) == fresh, "a new name that is no box"
    return told


def without_to(row):
    return row[:2] if row[0] == "part" else row


def done_rows(program, n, papers, boxes):
    """The rows that do what row n does, by 27."""
    row = program[n]
    for k, reckoning in enumerate(reckonings(program)):
        if reckoning_of(row) == reckoning and boxes[k] is not None:
            how = dict(papers[k][1])[n]
            if how == "read":
                return [("copy", row[1], boxes[k])]
            if how == "keep":
                return [("reckon", boxes[k]) + reckoning, ("copy", row[1], boxes[k])]
    return [without_to(row)]


def kept_rows(program, place, papers, boxes):
    return sorted(
        ("reckon", boxes[k]) + reckoning for k, reckoning in enumerate(reckonings(program)) if place in papers[k][0])


def expected_rows(program, papers, boxes):
    """How often each row but the go rows stands in the program that is told."""
    told = Counter()
    for n, row in enumerate(program):
        if row[0] != "go":
            told.update(done_rows(program, n, papers, boxes))
    for k, reckoning in enumerate(reckonings(program)):
        if boxes[k] is not None:
            told[("reckon", boxes[k]) + reckoning] += len(papers[k][0])
    return +told


def way_by(program, choices):
    """The beginning that goes on by these choices, one for each part, up to an end or the part that has none."""
    way, left = [0], list(choices)
    while followers(program, way[-1]):
        if program[way[-1]][0] == "part":
            if not left:
                return way
            way.append(followers(program, way[-1])[left.pop(0)])
        else:
            way.append(followers(program, way[-1])[0])
    return way


def in_order(rows, boxes):
    """The rows, with those that fill boxes and stand side by side in one order, as theirs is not promised."""
    told, filling = [], []
    for row in rows:
        if row[0] == "reckon" and row[1] in boxes:
            filling.append(row)
        else:
            told.extend(sorted(filling, key=str))
            filling = []
            told.append(row)
    return told + sorted(filling, key=str)


def done_on(program, way, papers, boxes):
    """What is done on a way of the old program, go rows left out, by 27: at its places and in its rows."""
    told = []
    for place, n in zip(gone_through(way), way):
        told.extend(kept_rows(program, place, papers, boxes))
        if program[n][0] != "go":
            told.extend(done_rows(program, n, papers, boxes))
    return in_order(told, boxes)


def assert_laid(case, program, papers, laid_in, choices):
    """Points 27, of the rows and of each way by these choices, and 28, of how often it reckons on them."""
    check(laid_in)
    case.assertIs(type(laid_in), list)
    case.assertLessEqual(len(laid_in), 60 * len(program))
    papers = written_out(program, papers)
    boxes = boxes_in(program, papers, laid_in)
    rows = Counter(without_to(row) for row in laid_in if row[0] != "go")
    case.assertEqual(rows, expected_rows(program, papers, boxes), (program, papers, laid_in))
    for some in choices:
        assert_same_way(case, program, papers, laid_in, boxes, some)


def assert_same_way(case, program, papers, laid_in, boxes, choices):
    old, new = way_by(program, choices), way_by(laid_in, choices)
    done = in_order([without_to(laid_in[n]) for n in new if laid_in[n][0] != "go"], boxes)
    case.assertEqual(done, done_on(program, old, papers, boxes), (program, papers, laid_in))
    for k, reckoning in enumerate(reckonings(program)):
        rows = [n for n in new if reckoning_of(laid_in[n]) == reckoning]
        case.assertEqual(len(rows), counted_slowly(papers[k], old), (program, papers, laid_in))


def assert_same_run(case, program, papers, laid_in, names, most=150):
    """Point 28, of a run; whether the old one came to an end is told."""
    word, said, worths, way = run(program, names, most)
    if word != "end":
        return False
    told = run(laid_in, names, 10000)
    case.assertEqual(told[:2], (word, said), (program, papers, laid_in, names))
    for name in names_in(program):
        case.assertEqual(told[2].get(name, 0), worths.get(name, 0), (program, papers, laid_in, names))
    papers = written_out(program, papers)
    for k, reckoning in enumerate(reckonings(program)):
        rows = [n for n in told[3] if reckoning_of(laid_in[n]) == reckoning]
        case.assertEqual(len(rows), counted_slowly(papers[k], way), (program, papers, laid_in, names))
    return True
