"""Rows, the names, worths and signs in them, and what a row does to a reckoning."""

# Tuples, not one text each: in a text the empty text and two signs at once would be found, too.
SIGNS = ("+", "-", "*", "&", "|", "^", "<", "=")
ROW_WORDS = ("say", "go", "part", "end")
LETTERS = "abcdefghijklmnopqrstuvwxyz"
FIGURES = "0123456789"


def is_name(thing):
    if not isinstance(thing, str) or len(thing) < 1 or len(thing) > 8:
        return False
    if thing in ROW_WORDS or thing[0] not in LETTERS:
        return False
    return all([sign in LETTERS or sign in FIGURES for sign in thing])


def is_number(thing):
    # Python counts True and False among its ints; the document does not.
    return isinstance(thing, int) and not isinstance(thing, bool)


def is_worth(thing):
    return is_number(thing) and 0 <= thing < 2 ** 64


def is_operand(thing):
    return is_name(thing) or is_worth(thing)


def is_sign(thing):
    return isinstance(thing, str) and thing in SIGNS


def is_target(thing):
    return is_number(thing) and thing >= 0


def is_row(thing):
    if not isinstance(thing, tuple) or len(thing) == 0 or not isinstance(thing[0], str):
        return False
    word = thing[0]
    if word == "reckon":
        return len(thing) == 5 and is_name(thing[1]) and is_reckoning(thing[2:])
    if word == "copy":
        return len(thing) == 3 and is_name(thing[1]) and is_operand(thing[2])
    if word == "say":
        return len(thing) == 2 and is_operand(thing[1])
    if word == "go":
        return len(thing) == 2 and is_target(thing[1])
    if word == "part":
        return len(thing) == 3 and is_operand(thing[1]) and is_target(thing[2])
    return word == "end" and len(thing) == 1


def is_reckoning(three):
    return is_sign(three[0]) and is_operand(three[1]) and is_operand(three[2])


def target_of(row):
    if row[0] == "go":
        return row[1]
    if row[0] == "part":
        return row[2]
    return None


def with_target(row, to):
    if row[0] == "go":
        return ("go", to)
    return ("part", row[1], to)


def reckoning_of(row):
    if row[0] == "reckon":
        return (row[2], row[3], row[4])
    return None


def sets(row):
    if row[0] == "reckon" or row[0] == "copy":
        return row[1]
    return None


def changes(row, reckoning):
    name = sets(row)
    return name is not None and (name == reckoning[1] or name == reckoning[2])
