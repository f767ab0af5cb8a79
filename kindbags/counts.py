"""What the machine does, read off a paper."""

from kindbags.papers import inner_papers
from kindbags.walks import walked


def steps_of(paper):
    # A plus and a both are come to once more, when what stands first in them is done.
    return len(walked(paper, inner_papers)) + lines_of(paper, ("plus", "both")) - 1


def slips_of(paper):
    return lines_of(paper, ("give",))


def look_ups_of(paper):
    return lines_of(paper, ("name",))


def lines_of(paper, words):
    return len([line for line in walked(paper, inner_papers) if line[0] in words])
