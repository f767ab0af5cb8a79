"""Bound and open names; lifting them, and putting a program in for one."""

from kindbags.programs import inner


def open_names(program):
    return sorted(set([number - ways for number, ways in names_in(program) if number >= ways]))


def names_in(program):
    # Each name of the program: its number, and how many ways stand around it.
    found = []
    pending = [(program, 0)]
    while pending:
        entry = pending.pop()
        one = entry[0]
        if one[0] == "name":
            found.append((one[1], entry[1]))
        below = ways_below(one, entry[1])
        pending.extend([(part, below) for part in inner(one)])
    return found


def ways_below(program, ways):
    return ways + 1 if program[0] == "way" else ways


def lifted(program, many, least):
    def moved(number, ways):
        return ("name", number + many if number >= ways + least else number)

    return with_names(program, moved)


def put_in(program, other):
    copies = copies_for(other, [ways for number, ways in names_in(program) if number == ways])

    def taken(number, ways):
        if number == ways:
            return copies[ways]
        return ("name", number - 1 if number > ways else number)

    return with_names(program, taken)


def copies_for(program, depths):
    # What is put in may be large, so it is lifted only where that changes it, and once for each depth.
    deeper = sorted(set(depths) - set([0]))
    closed = len(deeper) > 0 and not open_names(program)
    copies = {0: program}
    for ways in deeper:
        copies[ways] = program if closed else lifted(program, ways, 0)
    return copies


def with_names(program, change):
    # The program with change(number, ways) in the place of each name. What has inner ones is met twice:
    # first to lay these above it, then, when they are made, to put them together.
    made = []
    pending = [(program, 0, False)]
    while pending:
        entry = pending.pop()
        one = entry[0]
        if one[0] == "name":
            made.append(change(one[1], entry[1]))
        elif one[0] == "whole":
            made.append(one)
        elif entry[2]:
            # The last inner one was made first, so the first one lies on top.
            inners = [made.pop() for part in inner(one)]
            made.append((one[0],) + tuple(inners))
        else:
            pending.append((one, entry[1], True))
            below = ways_below(one, entry[1])
            pending.extend([(part, below, False) for part in inner(one)])
    return made.pop()
