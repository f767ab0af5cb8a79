"""The next place of a program, and its run."""

from kindbags.answers import is_answer
from kindbags.programs import inner
from kindbags.rules import behind, has_rule
from kindbags.walks import is_over, path_of

MOST_PARTS = 3000
MOST_DEEP = 100


def next_place(program):
    use = next_use(program)
    return None if use is None else use[0] + use[1]


def next_use(program):
    # The next place in two: that of a part in the place of an answer, and the one within it, in use.
    found = first_unanswered(program)
    if found is None:
        return None
    rest = place_in_use(found[0])
    return None if rest is None else (found[1], rest)


def first_unanswered(program):
    # The first part in the place of an answer that is neither an answer nor a pair, with its place; None of
    # an answer.
    pending = [(program, None)]
    while pending:
        entry = pending.pop()
        one = entry[0]
        if one[0] == "pair":
            pending.append((one[2], (entry[1], 1)))
            pending.append((one[1], (entry[1], 0)))
        elif one[0] != "whole" and one[0] != "way":
            return (one, path_of(entry[1]))
    return None


def place_in_use(program):
    place = []
    one = program
    while not has_rule(one):
        k = inner_in_use(one)
        if k is None:
            return None
        place.append(k)
        one = inner(one)[k]
    return tuple(place)


def inner_in_use(program):
    # Which inner one is used, where no rule can go at the program itself; None where none is.
    if program[0] in ("name", "way", "pair", "whole"):
        return None
    if program[0] == "plus" and program[1][0] == "whole":
        return 1
    return 0


def run(program, most):
    gone = run_through(program, most)
    return (gone[0], gone[1], len(gone[2]))


def run_through(program, most):
    # As run, but with a list, for each rule the place of the part in the place of an answer in which it was done.
    now = program
    stood_at = []
    use = next_use(now)
    while use is not None:
        if len(stood_at) >= most:
            return ("more", now, stood_at)
        later = behind(now, use[0] + use[1])
        if is_great(later):
            return ("great", now, stood_at)
        now = later
        stood_at.append(use[0])
        use = next_use(now)
    word = "answer" if is_answer(now) else "stuck"
    return (word, now, stood_at)


def is_great(program):
    return is_over(program, inner, MOST_PARTS, MOST_DEEP)
