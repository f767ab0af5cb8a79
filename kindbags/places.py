"""Places in a program: what stands there, and the program with something else there."""

from kindbags.programs import inner
from kindbags.walks import with_paths


def places(program):
    return [place for place, part in with_paths(program, inner)]


def at_place(program, place):
    one = program
    for k in place:
        inners = inner(one)
        if k < 0 or k >= len(inners):
            return None
        one = inners[k]
    return one


def replaced(program, place, other):
    around = []
    one = program
    for k in place:
        around.append(one)
        one = inner(one)[k]
    made = other
    for depth in range(len(place) - 1, -1, -1):
        made = with_inner(around[depth], place[depth], made)
    return made


def with_inner(program, k, other):
    inners = inner(program)
    return (program[0],) + inners[:k] + (other,) + inners[k + 1:]
