"""A paper parted at a place: what is around, and the papers of the part that stands there."""

from kindbags.checker import looked, looked_through, spot_of
from kindbags.papers import with_inner_papers


def parted(program, paper, place):
    looking = looked_through(program, paper)
    spot = spot_of(looking.spots, place)
    made = []
    # From the last line to the first, so a line's inner papers are made ahead of it.
    for line in reversed(looking.found):
        one = with_inner_papers(line.paper, [made.pop() for part in line.inners])
        made.append(hole_for(line) if line.spot == spot else one)
    return (made.pop(), [line.paper for line in looking.found if line.spot == spot])


def hole_for(line):
    book = looked(line.part, line.paper)[1]
    return ("hole", line.kind, tuple(sorted(book.items())))
