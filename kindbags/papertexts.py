"""Papers written, read from their texts, and put in order."""

from kindbags.errors import NoText
from kindbags.kindtexts import read_kind, show_kind
from kindbags.papers import INNER_PAPERS, inner_papers, with_inner_papers
from kindbags.spelling import bracketed, pieces_of, spelled_out
from kindbags.walks import flat_sorted, folded

SIGNS = "()[] #.~"
PAPER_OF_SIGN = {".": ("whole",), "~": ("some",)}


def show_paper(paper):
    return spelled_out(paper, spelled_paper)


def spelled_paper(paper):
    if paper[0] == "name":
        return ["#" + show_kind(paper[1])]
    if paper[0] == "some":
        return ["~"]
    if paper[0] == "whole":
        return ["."]
    return bracketed(paper[0], inner_papers(paper))


def read_paper(text):
    # Each frame holds what stands in a bracket that isn't closed yet: words and signs as texts, papers as tuples.
    frames = [[]]
    pieces = pieces_of(text, SIGNS)
    at = 0
    while at < len(pieces):
        piece = pieces[at]
        at += 1
        if piece == "(":
            frames.append([])
        elif piece == ")":
            closed = frames.pop()
            if len(frames) == 0:
                raise NoText(0)
            frames[-1].append(paper_closed(closed))
        elif piece == "#":
            end = kind_end(pieces, at)
            frames[-1].append(("name", read_kind("".join(pieces[at:end]))))
            at = end
        else:
            frames[-1].append(PAPER_OF_SIGN.get(piece, piece))
    if len(frames) != 1 or len(frames[0]) != 1 or not isinstance(frames[0][0], tuple):
        raise NoText(0)
    return frames[0][0]


def kind_end(pieces, start):
    # A kind's text goes up to the first blank or closing bracket that stands in none of its own brackets.
    depth = 0
    at = start
    while at < len(pieces) and (depth > 0 or pieces[at] not in (" ", ")")):
        if pieces[at] in ("(", "["):
            depth += 1
        elif pieces[at] in (")", "]"):
            depth -= 1
        at += 1
    return at


def paper_closed(row):
    # In the row word, blank, paper, blank, paper, .. every other one is a blank.
    papers = row[2::2]
    if row[1::2] != [" "] * len(papers) or not all([isinstance(one, tuple) for one in papers]):
        raise NoText(0)
    if len(papers) == 0 or not isinstance(row[0], str):
        raise NoText(0)
    if row[0] == "give":
        return ("give", papers[0], tuple(papers[1:]))
    if INNER_PAPERS.get(row[0]) != len(papers):
        raise NoText(0)
    return (row[0],) + tuple(papers)


def in_order(paper):
    return folded(paper, inner_papers, with_inners_in_order)


def with_inners_in_order(paper, inners):
    if paper[0] == "give":
        return ("give", inners[0], flat_sorted(inners[1:]))
    return with_inner_papers(paper, inners)
