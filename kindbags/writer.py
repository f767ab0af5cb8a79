"""The text of a closed program."""

from kindbags.programs import inner
from kindbags.spelling import bracketed, spelled_out
from kindbags.words import name_of


def shown(program):
    return spelled_out((program, 0), spelled)


def spelled(entry):
    # A tuple (program, ways around it) stands where its text is to stand.
    program = entry[0]
    ways = entry[1]
    if program[0] == "whole":
        return [str(program[1])]
    if program[0] == "name":
        return [name_of(ways - 1 - program[1])]
    if program[0] == "way":
        return ["(way ", name_of(ways), " ", (program[1], ways + 1), ")"]
    return bracketed(program[0], [(one, ways) for one in inner(program)])
