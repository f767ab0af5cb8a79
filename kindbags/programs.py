"""What a program is, its inner ones and its parts.

Programs that were told by one function and handed to another may nest deeper than calls may go within one
another, so every walk through a program keeps its own list of what is still to come.
"""

INNER_COUNTS = {"way": 1, "give": 2, "pair": 2, "first": 1, "second": 1, "plus": 2, "look": 3}


def is_program(thing):
    pending = [thing]
    while pending:
        one = pending.pop()
        if not has_form(one):
            return False
        pending.extend(inner(one))
    return True


def has_form(thing):
    if not isinstance(thing, tuple) or len(thing) == 0 or not isinstance(thing[0], str):
        return False
    if thing[0] == "name":
        return len(thing) == 2 and is_whole_number(thing[1]) and thing[1] >= 0
    if thing[0] == "whole":
        return len(thing) == 2 and is_whole_number(thing[1])
    return INNER_COUNTS.get(thing[0]) == len(thing) - 1


def is_whole_number(thing):
    return isinstance(thing, int) and not isinstance(thing, bool)


def inner(program):
    if program[0] == "name" or program[0] == "whole":
        return ()
    return program[1:]


def parts(program):
    many = 0
    pending = [program]
    while pending:
        many += 1
        pending.extend(inner(pending.pop()))
    return many


def nesting(program):
    depth = 0
    level = inner(program)
    while level:
        depth += 1
        below = []
        for one in level:
            below.extend(inner(one))
        level = below
    return depth
