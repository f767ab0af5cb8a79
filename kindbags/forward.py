"""Forward: of a paper of the program ahead of a rule a paper of the program behind it."""

from kindbags.backward import spots_put_in
from kindbags.checker import looked_through, spot_of
from kindbags.errors import NoRule
from kindbags.papers import with_inner_papers
from kindbags.papertexts import in_order
from kindbags.places import at_place
from kindbags.rules import can_go
from kindbags.walks import flat


def forward(program, place, paper):
    if not can_go(program, place):
        raise NoRule()
    looking = looked_through(program, paper)
    spot = spot_of(looking.spots, place)
    # A give's way has its own inner one at this place.
    put = spots_put_in(looking.spots, at_place(program, place), spot_of(looking.spots, place + (0, 0)))
    given = papers_put_in(looking.found, spot, put)
    made = []
    # From the last line to the first, so a line's inner papers are made ahead of it.
    for line in reversed(looking.found):
        inners = [made.pop() for part in line.inners]
        if line.spot in put:
            made.append(given.pop())
        elif line.spot == spot:
            made.append(paper_behind(line.paper[0], inners))
        else:
            made.append(with_inner_papers(line.paper, inners))
    return in_order(made.pop())


def papers_put_in(found, spot, put):
    # For each line at one of the spots put, in order, the paper that comes in its stead. Such a line stands within
    # the last give ahead of it at the spot, and takes the first paper of its kind that is left.
    taken = []
    left = {}
    for line in found:
        if line.spot == spot:
            left = by_kind(line.inners[1:])
        elif line.spot in put:
            taken.append(left[kind_key(line.kind)].pop())
    return taken


def by_kind(given):
    # The papers of these lines, a list for each kind, the first paper last.
    papers = {}
    for line in reversed(given):
        papers.setdefault(kind_key(line.kind), []).append(line.paper)
    return papers


def kind_key(kind):
    # Python compares no kinds that nest very deep.
    return tuple(flat(kind))


def paper_behind(word, inners):
    if word == "plus":
        return ("whole",)
    if word == "look":
        return inners[1]
    return inners[0][1]
