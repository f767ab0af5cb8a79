"""Rules done ahead: where they can go, and how often such a place is met."""

from kindbags.checker import looked_through, spot_of
from kindbags.programs import inner
from kindbags.rules import has_rule
from kindbags.walks import with_paths
from kindbags.written import paper_of


def rule_places(program):
    return [place for place, part in with_paths(program, inner) if has_rule(part)]


def met(program, place, most):
    times = times_met(program, [place], most)
    return None if times is None else times[0]


def best(program, most):
    found = rule_places(program)
    times = times_met(program, found, most)
    if times is None or len(found) == 0:
        return None
    # The first one of several that are met as often.
    return found[times.index(max(times))]


def times_met(program, asked, most):
    # How often each of these places is met; None where the program comes to no answer in so many rules.
    paper = paper_of(program, most)
    if paper is None:
        return None
    looking = looked_through(program, paper)
    times = {}
    for line in looking.found:
        times[line.spot] = times.get(line.spot, 0) + 1
    return [times.get(spot_of(looking.spots, place), 0) for place in asked]
