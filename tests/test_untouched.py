"""Point 1: nothing handed in is changed, all lists and dicts are new, nothing hangs on what was asked ahead."""

import copy
import unittest

from lazyhoist.counts import counted, tally
from lazyhoist.errors import NoPaper, NoProgram, NoText
from lazyhoist.firsts import firsts
from lazyhoist.laying import laid, moved
from lazyhoist.less import less_often
from lazyhoist.lives import live
from lazyhoist.looks import held, look
from lazyhoist.offs import put_off
from lazyhoist.papers import paper, still
from lazyhoist.programs import check, followers, leading, places, reckonings
from lazyhoist.rows import changes, is_name, is_row, reckoning_of, sets
from lazyhoist.runs import run
from lazyhoist.stands import standing, unstanding
from lazyhoist.texts import read, show
from lazyhoist.wants import unwanted, wanted
from lazyhoist.ways import is_way, is_whole, way_on, way_to
from lazyhoist.whole import hoisted, saving
from lazyhoist.worths import reckoned
from tests.samples import EACH_KIND

# As long as EACH_KIND, so that what is kept by length alone would be told wrongly.
OTHER = (
    ("part", 1, 0),
    ("reckon", "y", "*", "y", "y"),
    ("part", "y", 8),
    ("copy", "x", "y"),
    ("say", 1),
    ("go", 7),
    ("end",),
    ("part", "x", 6),
    ("go", 6),
)
REFUSED = (
    ([], ("row", 0)),
    ([None], ("row", 0)),
    ([("say", "a"), ("go", 2)], ("row", 1)),
    ([("end",), ("end",)], ("apart", 1)),
    ([("part", "a", 2), ("end",), ("go", 2)], ("endless", 2)),
)


REFUSED_TEXTS = (("", 0), ("# end", 0), ("end\nA", 1), ("\n\nsay", 2))
NAMES = {"a": 3, "b": 0, "n": 2, "y": 1, "z": 9}


def asked(program):
    """All that is told of a program, by question."""
    told = {"places": places(program), "reckonings": reckonings(program)}
    for n in range(len(program)):
        told["followers", n] = followers(program, n)
        told["leading", n] = leading(program, n)
        told["way to", n] = way_to(program, n)
        told["way on", n] = way_on(program, n)
    told["text"] = show(program)
    told["rows"] = read(show(program))
    for most in (0, 1, 7, 100):
        told["run", most] = run(program, NAMES, most)
    told["wanted"], told["standing"], told["firsts"] = wanted(program), standing(program), firsts(program)
    for k in range(len(reckonings(program))):
        for place in places(program):
            told["unwanted", k, place] = unwanted(program, k, place)
            told["unstanding", k, place] = unstanding(program, k, place)
        told.update(asked_of_papers(program, k))
    told["moved"], told["hoisted"] = moved(program), hoisted(show(program))
    for most in (0, 7, 100):
        told["saving", most] = saving(program, NAMES, most)
        told["tally", most] = tally(program, run(program, NAMES, most)[3])
    for name in ("still", "last", "first", "unwanted", "empty"):
        told["laid", name] = laid_or_refused(program, name)
    return told


def asked_of_papers(program, k):
    told = {}
    for size in (0, 1, 3, len(places(program))):
        stops = places(program)[:size]
        told["put off", k, size] = put_off(program, k, stops)
        told["paper", k, size] = paper(program, k, stops)
    told["put off", k], told["paper", k], told["still", k] = put_off(program, k), paper(program, k), still(program, k)
    for name, asked_about in papers_of(program, k).items():
        told["live", k, name] = live(program, k, asked_about)
        told["held", k, name] = held(program, k, asked_about)
        told["look", k, name] = paper_refused(program, k, asked_about)
        told["counted", k, name] = counted(program, k, asked_about, way_to(program, len(program) - 1))
        told["less often", k, name] = less_often(program, k, asked_about, paper(program, k))
        told["more often", k, name] = less_often(program, k, paper(program, k), asked_about)
    return told


def papers_of(program, k):
    """Papers that are let by, and some of which each is refused for something else."""
    rows = [n for n, how in still(program, k)[1]]
    return {
        "still": still(program, k),
        "last": paper(program, k),
        "first": paper(program, k, places(program)),
        "unwanted": (tuple(places(program)), tuple((n, "keep") for n in rows)),
        "empty": ((), tuple((n, "read") for n in rows)),
    }


def paper_refused(program, k, asked_about):
    try:
        return look(program, k, asked_about)
    except NoPaper as refusal:
        return (refusal.word, refusal.at, refusal.way)


def laid_or_refused(program, name):
    papers = [papers_of(program, k)[name] for k in range(len(reckonings(program)))]
    try:
        return laid(program, papers)
    except NoPaper as refusal:
        return (refusal.word, refusal.at, refusal.way)


def refusal_of(rows):
    try:
        check(rows)
    except NoProgram as refusal:
        return (refusal.word, refusal.at)
    return None


def line_refused(text):
    try:
        read(text)
    except NoText as refusal:
        return refusal.line
    return None


def holders(thing):
    """All lists and dicts in a thing, itself too."""
    if isinstance(thing, dict):
        within = list(thing.values())
    elif isinstance(thing, (list, tuple)):
        within = thing
    else:
        return []
    told = [] if isinstance(thing, tuple) else [thing]
    for part in within:
        told.extend(holders(part))
    return told


def spoil(told):
    """Changes every list and dict among the answers."""
    for holder in holders(list(told.values())):
        if isinstance(holder, dict):
            holder["changed"] = 7
        else:
            holder.reverse()
            holder.append("changed")


def empty(told):
    for holder in holders(list(told.values())):
        holder.clear()


class HandedIn(unittest.TestCase):
    def test_programs_stay(self):
        for rows in (EACH_KIND, OTHER):
            program = list(rows)
            check(program)
            self.assertEqual(program, list(rows))
            asked(program)
            self.assertEqual(program, list(rows))

    def test_names_and_ways_stay(self):
        program, names, way = list(EACH_KIND), dict(NAMES), [0, 1, 4, 5]
        for most in (0, 1, 2, 50, 1000):
            run(program, names, most)
            self.assertEqual(names, NAMES)
        self.assertIs(is_way(program, way), True)
        self.assertIs(is_whole(program, way), False)
        self.assertEqual(way, [0, 1, 4, 5])
        self.assertEqual(program, list(EACH_KIND))

    def test_refused_lists_stay(self):
        for rows, word_and_at in REFUSED:
            before = copy.deepcopy(rows)
            self.assertEqual(refusal_of(rows), word_and_at)
            self.assertEqual(rows, before)

    def test_things_asked_about_stay(self):
        thing = ["reckon", "x", ["+"], {"a": [1]}]
        before = copy.deepcopy(thing)
        self.assertIs(is_row(thing), False)
        self.assertIs(is_name(thing), False)
        self.assertIs(is_row(("say", thing)), False)
        self.assertEqual(thing, before)


    def test_stops_stay(self):
        program = list(EACH_KIND)
        for k in range(3):
            for size in (0, 1, 4, 10):
                stops = places(program)[:size][::-1] * 2
                before = list(stops)
                put_off(program, k, stops)
                paper(program, k, stops)
                self.assertEqual(stops, before)
                self.assertEqual(program, list(EACH_KIND))

    def test_programs_stay_where_papers_are_refused(self):
        program = list(EACH_KIND)
        for k in range(3):
            for asked_about in list(papers_of(program, k).values()) + [((), ()), (((0, 0),), ())]:
                paper_refused(program, k, asked_about)
                self.assertEqual(program, list(EACH_KIND))


    def test_papers_ways_and_names_stay(self):
        program = list(EACH_KIND)
        papers = [None, paper(program, 1, places(program)), ((), ((6, "keep"),))]
        before = list(papers)
        self.assertGreater(len(laid(program, papers)), len(program))
        self.assertEqual(papers, before)
        papers[0] = ((), ())
        before = list(papers)
        self.assertRaises(NoPaper, laid, program, papers)
        self.assertEqual(papers, before)
        way, names = [0, 1, 4, 5, 6, 7, 1], dict(NAMES)
        tally(program, way)
        for k in range(3):
            counted(program, k, still(program, k), way)
        saving(program, names)
        saving(program, names, 3)
        self.assertEqual((way, names, program), ([0, 1, 4, 5, 6, 7, 1], NAMES, list(EACH_KIND)))


class GivenBack(unittest.TestCase):
    def test_the_same_behind_changed_answers(self):
        program = list(EACH_KIND)
        first = asked(program)
        kept = copy.deepcopy(first)
        spoil(first)
        self.assertNotEqual(first, kept)
        self.assertEqual(asked(program), kept)
        empty(asked(program))
        self.assertEqual(asked(program), kept)
        self.assertEqual(program, list(EACH_KIND))
        self.assertEqual(NAMES, {"a": 3, "b": 0, "n": 2, "y": 1, "z": 9})

    def test_each_time_another_list_or_dict(self):
        for rows in (EACH_KIND, OTHER, (("end",),)):
            program = list(rows)
            told = [program, NAMES] + holders([asked(program), asked(program)])
            self.assertEqual(len({id(holder) for holder in told}), len(told))

    def test_lists_of_one_row_without_followers(self):
        program = [("end",)]
        spoil(asked(program))
        told = asked(program)
        for question, answer in (
            ("places", [(-1, 0)]), ("reckonings", []), (("followers", 0), []), (("leading", 0), [(-1, 0)]),
            (("way to", 0), [0]), (("way on", 0), [0]), ("rows", [("end",)]), ("text", "end"),
            (("run", 0), ("spent", [], {"a": 3, "n": 2, "y": 1, "z": 9}, [])),
            (("run", 1), ("end", [], {"a": 3, "n": 2, "y": 1, "z": 9}, [0])),
            ("wanted", {(-1, 0): 0}), ("standing", {(-1, 0): 0}), ("firsts", {(-1, 0): 0}),
            ("moved", [("end",)]), ("hoisted", "end"), (("laid", "first"), [("end",)]), (("saving", 7), []),
            (("tally", 7), []),
        ):
            self.assertEqual(told[question], answer)


class ChangedBehind(unittest.TestCase):
    def test_a_program_changed_behind_the_call_changes_no_answer(self):
        program = list(EACH_KIND)
        told = asked(program)
        kept = copy.deepcopy(told)
        program[:] = list(OTHER)
        self.assertEqual(told, kept)
        program.clear()
        self.assertEqual(told, kept)

    def test_stops_changed_behind_the_call_change_no_answer(self):
        program = [("say", 1), ("say", 2), ("reckon", "z", "+", "x", "y"), ("end",)]
        stops = [(0, 1)]
        told = put_off(program, 0, stops)
        self.assertEqual(told, ([(-1, 0), (0, 1)], [0]))
        self.assertEqual(paper(program, 0, stops), (((0, 1),), ((2, "read"),)))
        stops[0] = (1, 2)
        self.assertEqual(told, ([(-1, 0), (0, 1)], [0]))
        self.assertEqual(put_off(program, 0, stops), ([(-1, 0), (0, 1), (1, 2)], [0, 1]))
        self.assertEqual(paper(program, 0, stops), (((1, 2),), ((2, "read"),)))
        stops.clear()
        self.assertEqual(put_off(program, 0, stops), ([(-1, 0), (0, 1), (1, 2)], [0, 1, 2]))
        self.assertEqual(paper(program, 0, stops), ((), ((2, "own"),)))

    def test_papers_ways_and_names_changed_behind_the_call_change_no_answer(self):
        program = [("say", 1), ("reckon", "z", "+", "x", "y"), ("part", "c", 0), ("end",)]
        kept_ahead = (((-1, 0),), ((1, "read"),))
        papers, way, names = [kept_ahead], [0, 1, 2, 0, 1, 2, 3], {"c": 1}
        told = laid(program, papers), tally(program, way), saving(program, names, 7)
        kept = copy.deepcopy(told)
        papers[0] = None
        way.pop()
        names.clear()
        self.assertEqual(told, kept)
        self.assertEqual(laid(program, papers), program)
        self.assertEqual(counted(program, 0, still(program, 0), way), 2)
        self.assertEqual(counted(program, 0, still(program, 0), way[:3]), 1)
        self.assertEqual((tally(program, way[:4]), tally(program, way)), ([1], [2]))
        self.assertEqual((saving(program, names, 7), saving(program, {"c": 1}, 7)), ([0], kept[2]))

    def test_a_program_told_is_the_askers_own(self):
        program = [("say", 1), ("reckon", "z", "+", "x", "y"), ("part", "c", 0), ("end",)]
        for count in range(2):
            for told in (laid(program, [None]), laid(program, [still(program, 0)]), moved([("end",)]), moved(program)):
                told.clear()
            self.assertEqual(len(moved(program)), 5)
            self.assertEqual(laid(program, [None]), program)
            self.assertEqual(len(program), 4)

    def test_a_refusal_is_made_of_a_new_list(self):
        program = [("say", 1), ("reckon", "z", "+", "x", "y"), ("say", 2), ("end",)]
        unwanted_there, empty_there = (((1, 2),), ((1, "own"),)), ((), ((1, "read"),))
        for count in range(3):
            refused = [paper_refused(program, 0, unwanted_there), paper_refused(program, 0, empty_there)]
            self.assertEqual(refused, [("unwanted", (1, 2), [2, 3]), ("empty", 1, [0, 1])])
            for word, at, way in refused:
                way.clear()
            self.assertEqual(program, [("say", 1), ("reckon", "z", "+", "x", "y"), ("say", 2), ("end",)])

    def test_names_changed_behind_the_call_change_no_answer(self):
        program, names = list(EACH_KIND), dict(NAMES)
        told = run(program, names)
        kept = copy.deepcopy(told)
        names.clear()
        names["x"] = 5
        self.assertEqual(told, kept)
        self.assertEqual(run(program, names), run(program, {"x": 5}))
        self.assertNotEqual(run(program, names), kept)

    def test_a_changed_way_is_told_as_it_is_now(self):
        program, way = list(EACH_KIND), [0, 1, 4, 5, 6, 7]
        self.assertIs(is_whole(program, way), False)
        way.append(8)
        self.assertIs(is_whole(program, way), True)
        way.append(8)
        self.assertIs(is_way(program, way), False)

    def test_a_changed_program_is_told_as_it_is_now(self):
        program = list(EACH_KIND)
        asked(program)
        check(program)
        program[:] = list(OTHER)
        self.assertEqual(asked(program), asked(list(OTHER)))
        self.assertEqual(reckonings(program), [("*", "y", "y")])
        self.assertEqual(followers(program, 7), [8, 6])
        program[8] = ("say", 1)
        self.assertEqual(refusal_of(program), ("row", 8))
        program[8] = ("go", 6)
        self.assertIsNone(refusal_of(program))


class AskedAhead(unittest.TestCase):
    def test_others_in_between(self):
        program, other = list(EACH_KIND), list(OTHER)
        one_told, other_told = asked(program), asked(other)
        self.assertNotEqual(one_told, other_told)
        for count in range(3):
            for rows, word_and_at in REFUSED:
                self.assertEqual(refusal_of(rows), word_and_at)
                self.assertIsNone(refusal_of(program))
                self.assertEqual(asked(program), one_told)
                self.assertEqual(refusal_of(rows), word_and_at)
                self.assertIsNone(refusal_of(other))
                self.assertEqual(asked(other), other_told)
            for text, line in REFUSED_TEXTS:
                self.assertEqual(line_refused(text), line)
                self.assertEqual(asked(program), one_told)
                self.assertEqual(line_refused(text), line)
                self.assertEqual(asked(other), other_told)

    def test_other_texts_in_between(self):
        for count in range(2):
            for text, rows in (
                ("x = a\nend", [("copy", "x", "a"), ("end",)]), ("end", [("end",)]), ("say a", [("say", "a")]),
                ("x = b\nend", [("copy", "x", "b"), ("end",)]), ("end\n", [("end",)]), ("say 1", [("say", 1)]),
            ):
                told = read(text)
                self.assertEqual(told, rows)
                told.append("changed")

    def test_programs_of_the_same_shape_in_between(self):
        # The same places each time, and each time another answer.
        program = [("say", 1), ("reckon", "z", "+", "x", "y"), ("say", 2), ("end",)]

        def in_order(told):
            return [told[place] for place in places(program)]

        for count in range(2):
            program[0], program[2] = ("say", 1), ("say", 2)
            self.assertEqual(in_order(wanted(program)), [1, 1, 0, 0])
            self.assertEqual(in_order(standing(program)), [0, 0, 1, 1])
            self.assertEqual(in_order(firsts(program)), [1, 0, 0, 0])
            self.assertIsNone(unwanted(program, 0, (-1, 0)))
            self.assertIsNone(unstanding(program, 0, (2, 3)))
            program[0], program[2] = ("copy", "x", 1), ("copy", "y", 2)
            self.assertEqual(in_order(wanted(program)), [0, 1, 0, 0])
            self.assertEqual(in_order(standing(program)), [0, 0, 1, 0])
            self.assertEqual(in_order(firsts(program)), [0, 1, 0, 0])
            self.assertEqual(unwanted(program, 0, (-1, 0)), [0])
            self.assertEqual(unstanding(program, 0, (2, 3)), [2])

    def test_other_papers_in_between(self):
        program = [("reckon", "z", "+", "x", "y"), ("copy", "x", 1), ("reckon", "z", "+", "x", "y"), ("end",)]
        other = [("reckon", "z", "+", "x", "y"), ("copy", "z", 1), ("reckon", "z", "+", "x", "y"), ("end",)]
        keep_and_read = ((), ((0, "keep"), (2, "read")))
        kept_anew = (((1, 2),), ((0, "own"), (2, "read")))
        for count in range(3):
            self.assertEqual(paper_refused(program, 0, keep_and_read), ("empty", 2, [0, 1, 2]))
            self.assertIsNone(paper_refused(other, 0, keep_and_read))
            self.assertIsNone(paper_refused(program, 0, kept_anew))
            self.assertEqual(paper_refused(program, 0, ((), ())), ("form", None, None))
            self.assertEqual(held(program, 0, keep_and_read), [(0, 1)])
            self.assertEqual(held(program, 0, kept_anew), [(1, 2), (2, 3)])
            self.assertEqual(held(other, 0, keep_and_read), [(0, 1), (1, 2), (2, 3)])
            self.assertEqual(live(program, 0, keep_and_read), [(1, 2)])
            self.assertEqual(live(other, 0, keep_and_read), [(0, 1), (1, 2)])
            self.assertEqual(live(other, 0, kept_anew), [(1, 2)])
            self.assertEqual(paper(program, 0), ((), ((0, "own"), (2, "own"))))
            self.assertEqual(paper(other, 0), keep_and_read)
            self.assertEqual(paper(program, 0, [(1, 2)]), kept_anew)
            self.assertRaises(NoPaper, laid, program, [keep_and_read])
            self.assertEqual(len(laid(other, [keep_and_read])), 5)
            self.assertEqual(len(laid(program, [kept_anew])), 5)
            self.assertEqual(moved(program), program)
            self.assertEqual(counted(program, 0, keep_and_read, [0, 1, 2, 3]), 1)
            self.assertEqual(counted(program, 0, kept_anew, [0, 1, 2, 3]), 2)
            self.assertEqual(counted(program, 0, kept_anew, [0, 1]), 1)
            self.assertEqual(less_often(program, 0, keep_and_read, kept_anew), ("way", [0, 1, 2, 3]))
            self.assertEqual(less_often(program, 0, kept_anew, keep_and_read)[0], "never")
            self.assertEqual((saving(program, {}), saving(other, {})), ([0], [1]))

    def test_other_texts_hoisted_in_between(self):
        for count in range(2):
            self.assertEqual(hoisted("x = a + b\nend"), "x = a + b\nend")
            self.assertRaises(NoText, hoisted, "x = a +\nend")
            self.assertEqual(hoisted("end"), "end")
            self.assertRaises(NoProgram, hoisted, "end\nend")
            self.assertEqual(len(hoisted("x = a + b\nx = a + b\nend").split("\n")), 4)

    def test_the_list_without_rows_is_a_new_one(self):
        program = [("reckon", "z", "+", "x", "y"), ("end",)]
        for count in range(2):
            told = unstanding(program, 0, (-1, 0))
            self.assertEqual(told, [])
            told.append(7)

    def test_names_of_another_run_are_forgotten(self):
        program = [("reckon", "a", "+", "a", "b"), ("say", "a"), ("end",)]
        for count in range(2):
            self.assertEqual(run(program, {"a": 1, "b": 2, "c": 3})[1:3], ([3], {"a": 3, "b": 2, "c": 3}))
            self.assertEqual(run(program, {})[1:3], ([0], {}))
            self.assertEqual(run(program, {"b": 1})[1:3], ([1], {"a": 1, "b": 1}))
            self.assertEqual(reckoned("+", 1, 2), 3)
            self.assertEqual(reckoned("-", 1, 2), 2 ** 64 - 1)

    def test_rows_asked_twice(self):
        for count in range(2):
            for name, told in (("a", True), ("say", False), ("A", False), ("b", True), (1, False), (True, False)):
                self.assertIs(is_name(name), told)
            for row, told in ((("say", 1), True), (("say", True), False), (("say", 1.0), False), (("say", 1), True)):
                self.assertIs(is_row(row), told)
            self.assertEqual(sets(EACH_KIND[0]), "n")
            self.assertIsNone(sets(EACH_KIND[1]))
            self.assertEqual(reckoning_of(EACH_KIND[2]), ("+", "a", "b"))
            self.assertIsNone(reckoning_of(EACH_KIND[3]))
            self.assertIs(changes(EACH_KIND[6], ("-", "n", 1)), True)
            self.assertIs(changes(EACH_KIND[2], ("-", "n", 1)), False)

    def test_equal_worths_of_other_kinds_in_between(self):
        for count in range(2):
            self.assertIsNone(refusal_of([("say", 1), ("go", 2), ("end",)]))
            self.assertEqual(refusal_of([("say", True), ("go", 2), ("end",)]), ("row", 0))
            self.assertEqual(refusal_of([("say", 1), ("go", 2.0), ("end",)]), ("row", 1))


if __name__ == "__main__":
    unittest.main()
