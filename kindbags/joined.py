"""What is around a part, joined with papers of it, and looked at."""

from kindbags.checker import around_looked_through
from kindbags.errors import NoFit
from kindbags.papers import inner_papers, marks, with_inner_papers
from kindbags.walks import walked


def joined(around, papers):
    found = walked(around, inner_papers)
    left = list(papers)
    if len([line for line in found if line[0] == "hole"]) != len(left):
        raise NoFit()
    made = []
    # From the last line to the first, so a line's inner papers are made ahead of it, and the last paper comes first.
    for line in reversed(found):
        if line[0] == "hole":
            made.append(left.pop())
        else:
            made.append(with_inner_papers(line, [made.pop() for part in inner_papers(line)]))
    return made.pop()


def around_looked(program, place, around):
    return around_looked_through(program, place, around).told_in_all()


def around_marks(around):
    return marks(around)
