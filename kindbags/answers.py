"""Answers, their parts, and data."""

from kindbags.walks import walked


def is_answer(program):
    return all([one[0] in ("whole", "way", "pair") for one in pairs_and_leaves(program)])


def size(answer):
    return len(pairs_and_leaves(answer))


def is_data(program):
    return all([one[0] in ("whole", "pair") for one in pairs_and_leaves(program)])


def pairs_and_leaves(program):
    return walked(program, inner_of_pair)


def inner_of_pair(program):
    # A way is an answer whatever stands in it, so pairs alone are looked into.
    return program[1:] if program[0] == "pair" else ()
