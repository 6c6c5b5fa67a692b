"""Worths: what two of them come to by a sign."""


def reckoned(s, a, b):
    if s == "+":
        return (a + b) % 2 ** 64
    if s == "-":
        return (a - b) % 2 ** 64
    if s == "*":
        return (a * b) % 2 ** 64
    if s == "&":
        return a & b
    if s == "|":
        return a | b
    if s == "^":
        return a ^ b
    if s == "<":
        return 1 if a < b else 0
    return 1 if a == b else 0
