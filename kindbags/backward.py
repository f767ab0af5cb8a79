"""Backward: of a paper of the program behind a rule a paper of the program ahead of it."""

from kindbags.checker import looked_through, spot_of
from kindbags.names import ways_below
from kindbags.papers import with_inner_papers
from kindbags.papertexts import in_order
from kindbags.places import at_place
from kindbags.programs import inner
from kindbags.rules import behind


def backward(program, place, paper):
    looking = looked_through(behind(program, place), paper)
    stood = at_place(program, place)
    spot = spot_of(looking.spots, place)
    put = spots_put_in(looking.spots, stood, spot)
    made = []
    given = []
    # From the last line to the first, so a line's inner papers are made ahead of it, and what is gathered in
    # given when a line at the place is come to was found within it.
    for line in reversed(looking.found):
        one = with_inner_papers(line.paper, [made.pop() for part in line.inners])
        if line.spot in put:
            given.append(one)
            one = ("name", line.kind)
        if line.spot == spot:
            one = paper_ahead(stood[0], one, given)
            given = []
        made.append(one)
    return in_order(made.pop())


def paper_ahead(word, line, given):
    if word == "give":
        return ("give", ("way", line), tuple(given))
    if word == "first":
        return ("first", ("left", line))
    if word == "second":
        return ("second", ("right", line))
    if word == "plus":
        return ("plus", ("whole",), ("whole",))
    return ("look", ("whole",), line)


def spots_put_in(spots, program, spot):
    # The spots, as a dict of True, of what was given by the rule of a give, where lines stand there.
    put = {}
    pending = [(program[1][1], 0, spot)] if program[0] == "give" else []
    while pending:
        entry = pending.pop()
        one = entry[0]
        if entry[2] is None:
            continue
        if one == ("name", entry[1]):
            put[entry[2]] = True
        ways = ways_below(one, entry[1])
        pending.extend([(part, ways, spots.get((entry[2], k))) for k, part in enumerate(inner(one))])
    return put
