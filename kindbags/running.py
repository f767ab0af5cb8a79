"""The next place of a program, and its run."""

from kindbags.answers import is_answer
from kindbags.programs import inner
from kindbags.rules import behind, has_rule
from kindbags.walks import path_of

MOST_PARTS = 3000
MOST_DEEP = 100


def next_place(program):
    found = first_unanswered(program)
    if found is None:
        return None
    rest = place_in_use(found[0])
    if rest is None:
        return None
    return found[1] + rest


def first_unanswered(program):
    # The first part in the place of an answer that is neither an answer nor a pair, with its place; None of
    # an answer.
    pending = [(program, None)]
    while pending:
        entry = pending.pop()
        one = entry[0]
        if one[0] == "pair":
            pending.append((one[2], (entry[1], 1)))
            pending.append((one[1], (entry[1], 0)))
        elif one[0] != "whole" and one[0] != "way":
            return (one, path_of(entry[1]))
    return None


def place_in_use(program):
    place = []
    one = program
    while not has_rule(one):
        k = inner_in_use(one)
        if k is None:
            return None
        place.append(k)
        one = inner(one)[k]
    return tuple(place)


def inner_in_use(program):
    # Which inner one is used, where no rule can go at the program itself; None where none is.
    if program[0] in ("name", "way", "pair", "whole"):
        return None
    if program[0] == "plus" and program[1][0] == "whole":
        return 1
    return 0


def run(program, most):
    now = program
    rules = 0
    place = next_place(now)
    while place is not None:
        if rules >= most:
            return ("more", now, rules)
        later = behind(now, place)
        if is_great(later):
            return ("great", now, rules)
        now = later
        rules += 1
        place = next_place(now)
    word = "answer" if is_answer(now) else "stuck"
    return (word, now, rules)


def is_great(program):
    # Looks at no more parts than it must: one rule may multiply a program's parts by thousands.
    many = 0
    pending = [(program, 0)]
    while pending:
        entry = pending.pop()
        many += 1
        if many > MOST_PARTS or entry[1] > MOST_DEEP:
            return True
        pending.extend([(one, entry[1] + 1) for one in inner(entry[0])])
    return False
