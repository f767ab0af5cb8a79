"""The desk: rows of a word and texts, each answered by a text."""

from kindbags.answers import size
from kindbags.better import as_good
from kindbags.checker import looked
from kindbags.counts import look_ups_of, slips_of, steps_of
from kindbags.errors import NoPaper, NoRow
from kindbags.kindtexts import show_kind
from kindbags.papers import marks
from kindbags.papertexts import read_paper, show_paper
from kindbags.reader import read
from kindbags.running import run
from kindbags.turning import rule_places, times_met
from kindbags.writer import shown
from kindbags.written import paper_of

MOST_RULES = 400
# How many texts stand behind a word.
TEXTS = {"run": 1, "paper": 1, "look": 2, "steps": 1, "saved": 1, "better": 2}
ROAD_SIGNS = {"first": "1", "second": "2"}


def answered(row):
    cut = row.partition(" ")
    texts = cut[2].split(" | ")
    if cut[1] == "" or TEXTS.get(cut[0]) != len(texts):
        raise NoRow()
    program = read(texts[0])
    if cut[0] == "run":
        return answer_run(program)
    if cut[0] == "paper":
        return answer_paper(program)
    if cut[0] == "look":
        return answer_look(program, read_paper(texts[1]))
    if cut[0] == "steps":
        return answer_steps(program)
    if cut[0] == "saved":
        return answer_saved(program)
    return answer_better(program, read(texts[1]))


def spaced(things):
    return " ".join([str(one) for one in things])


def answer_run(program):
    told = run(program, MOST_RULES)
    if told[0] != "answer":
        return spaced([told[0], told[2]])
    return spaced([told[0], told[2], size(told[1]), shown(told[1])])


def answer_paper(program):
    paper = paper_of(program, MOST_RULES)
    return "none" if paper is None else show_paper(paper)


def answer_look(program, paper):
    try:
        kind = looked(program, paper)[0]
    except NoPaper:
        return "none"
    return spaced([show_kind(kind), marks(paper)])


def answer_steps(program):
    paper = paper_of(program, MOST_RULES)
    if paper is None:
        return "none"
    return spaced([steps_of(paper), slips_of(paper), look_ups_of(paper), marks(paper)])


def answer_saved(program):
    found = rule_places(program)
    times = times_met(program, found, MOST_RULES)
    if times is None:
        return "none"
    return spaced([place_text(place) + ":" + str(many) for place, many in zip(found, times)])


def place_text(place):
    return "-" if place == () else ".".join([str(k) for k in place])


def answer_better(program, other):
    told = as_good(program, other)
    if told is None:
        return "yes"
    return spaced([told[0], road_text(told[1])])


def road_text(road):
    return "-" if road == () else "".join([ROAD_SIGNS[word] for word in road])
