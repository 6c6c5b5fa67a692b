"""Texts: the rows that a text writes, and the text that shows a program."""

from lazyhoist.errors import NoText
from lazyhoist.rows import FIGURES, is_row


def read(text):
    rows = []
    for line, written in enumerate(text.split("\n")):
        words = words_of(written)
        if len(words) > 0:
            row = row_of(words)
            if not is_row(row):
                raise NoText(line)
            rows.append(row)
    if len(rows) == 0:
        raise NoText(0)
    return rows


def words_of(line):
    # A blank alone parts words; split without it would take tabs and other signs for blanks, too.
    return [word for word in line.partition("#")[0].split(" ") if word != ""]


def row_of(words):
    # The tuple that words of this number and order write, or None; whether it is a row is asked of it behind this.
    size = len(words)
    if size == 5 and words[1] == "=":
        return ("reckon", words[0], words[3], value_of(words[2]), value_of(words[4]))
    if size == 3 and words[1] == "=":
        return ("copy", words[0], value_of(words[2]))
    if size == 3 and words[0] == "part":
        return ("part", value_of(words[1]), value_of(words[2]))
    if size == 2 and (words[0] == "say" or words[0] == "go"):
        return (words[0], value_of(words[1]))
    if size == 1 and words[0] == "end":
        return ("end",)
    return None


def value_of(word):
    if writes_number(word):
        return number_of(word)
    return word


def writes_number(word):
    if word[0] == "0":
        return word == "0"
    return all([sign in FIGURES for sign in word])


def number_of(word):
    # Not by int: how many figures it takes hangs on how Python was set up.
    number = 0
    for sign in word:
        number = number * 10 + FIGURES.index(sign)
    return number


def show(program):
    return "\n".join([line_of(row) for row in program])


def line_of(row):
    if row[0] == "reckon":
        return " ".join([row[1], "=", str(row[3]), row[2], str(row[4])])
    if row[0] == "copy":
        return " ".join([row[1], "=", str(row[2])])
    return " ".join([str(thing) for thing in row])
