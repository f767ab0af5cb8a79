"""The rules: where one can go, and the program behind it."""

from kindbags.errors import NoRule
from kindbags.names import put_in
from kindbags.places import at_place, replaced


def can_go(program, place):
    one = at_place(program, place)
    return one is not None and has_rule(one)


def has_rule(program):
    # Whether a rule can go at the place ().
    word = program[0]
    if word == "give":
        return program[1][0] == "way"
    if word == "first" or word == "second":
        return program[1][0] == "pair"
    if word == "plus":
        return program[1][0] == "whole" and program[2][0] == "whole"
    return word == "look" and program[1][0] == "whole"


def behind(program, place):
    if not can_go(program, place):
        raise NoRule()
    return replaced(program, place, comes_of(at_place(program, place)))


def comes_of(program):
    word = program[0]
    held = program[1]
    if word == "give":
        return put_in(held[1], program[2])
    if word == "first":
        return held[1]
    if word == "second":
        return held[2]
    if word == "plus":
        return ("whole", held[1] + program[2][1])
    return program[2] if held[1] == 0 else program[3]
