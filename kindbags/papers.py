"""Papers, also with holes: their inner papers, lines and marks."""

from kindbags.walks import walked, with_paths

# How many inner papers stand behind a word, but name and hole, which have a kind there, and give, which has any number.
INNER_PAPERS = {"some": 0, "whole": 0, "way": 1, "left": 1, "right": 1, "first": 1, "second": 1, "both": 2, "plus": 2,
                "look": 2}
NO_INNER_PAPERS = ("name", "hole")
MARKS = ("give", "first", "second", "plus", "look")


def inner_papers(paper):
    if paper[0] in NO_INNER_PAPERS:
        return ()
    if paper[0] == "give":
        return (paper[1],) + paper[2]
    return paper[1:]


def with_inner_papers(paper, inners):
    # The paper with these inner papers, a list of as many as it has.
    if paper[0] in NO_INNER_PAPERS:
        return paper
    if paper[0] == "give":
        return ("give", inners[0], tuple(inners[1:]))
    return (paper[0],) + tuple(inners)


def lines(paper):
    return with_paths(paper, inner_papers)


def marks(paper):
    return len([line for line in walked(paper, inner_papers) if line[0] in MARKS])
