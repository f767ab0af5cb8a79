"""The text of a closed program."""

from kindbags.programs import inner
from kindbags.words import name_of


def shown(program):
    pieces = []
    pending = [(program, 0)]
    while pending:
        entry = pending.pop()
        if isinstance(entry, str):
            pieces.append(entry)
        else:
            pending.extend(list(reversed(spelled(entry[0], entry[1]))))
    return "".join(pieces)


def spelled(program, ways):
    # Texts, and tuples (inner one, ways around it) where its text is to stand.
    if program[0] == "whole":
        return [str(program[1])]
    if program[0] == "name":
        return [name_of(ways - 1 - program[1])]
    if program[0] == "way":
        return ["(way ", name_of(ways), " ", (program[1], ways + 1), ")"]
    row = ["(" + program[0]]
    for one in inner(program):
        row.append(" ")
        row.append((one, ways))
    row.append(")")
    return row
