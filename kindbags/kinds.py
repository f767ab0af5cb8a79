"""Kinds: for what a part of a program is used."""

from kindbags.answers import inner_of_pair
from kindbags.programs import is_whole_number
from kindbags.walks import flat, folded, walked


def is_kind(thing):
    # First the forms alone: only kinds can be sorted, so bags are looked at when all in them are known to be some.
    bags = []
    pending = [thing]
    while pending:
        one = pending.pop()
        if not has_kind_form(one):
            return False
        if one[0] == "way":
            bags.append(one[1])
        pending.extend(inner_kinds(one))
    return all([is_sorted(bag) for bag in bags])


def has_kind_form(thing):
    if not isinstance(thing, tuple) or len(thing) == 0:
        return False
    if thing[0] == "is":
        return len(thing) == 2 and is_whole_number(thing[1])
    if thing[0] == "some":
        return len(thing) == 1
    if thing[0] == "way":
        return len(thing) == 3 and isinstance(thing[1], tuple)
    if thing[0] == "both":
        return len(thing) == 3 and has_answer_word(thing[1]) and has_answer_word(thing[2])
    return thing[0] in ("left", "right") and len(thing) == 2


def has_answer_word(thing):
    return isinstance(thing, tuple) and len(thing) > 0 and thing[0] in ("is", "some", "both")


def inner_kinds(kind):
    if kind[0] == "is" or kind[0] == "some":
        return ()
    if kind[0] == "way":
        return kind[1] + (kind[2],)
    return kind[1:]


def is_bag(thing):
    return isinstance(thing, tuple) and all([is_kind(one) for one in thing]) and is_sorted(thing)


def is_sorted(kinds):
    if len(kinds) < 2:
        return True
    keys = [flat(kind) for kind in kinds]
    return keys == sorted(keys)


def of_answer(kind):
    return has_answer_word(kind)


def kind_size(kind):
    return len(walked(kind, inner_kinds))


def answer_kind(answer):
    return folded(answer, inner_of_pair, kind_made)


def kind_made(answer, kinds):
    if answer[0] == "whole":
        return ("is", answer[1])
    if answer[0] == "way":
        return ("some",)
    return ("both",) + tuple(kinds)
