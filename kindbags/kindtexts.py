"""Kinds written, and read from their texts."""

from kindbags.errors import NoText
from kindbags.kinds import is_kind
from kindbags.spelling import pieces_of, spelled_out
from kindbags.words import is_whole_text

SIGNS = "[]() :,~"
MOST_FIGURES = 12


def show_kind(kind):
    return spelled_out(kind, spelled_kind)


def spelled_kind(kind):
    if kind[0] == "is":
        return [str(kind[1])]
    if kind[0] == "some":
        return ["~"]
    if kind[0] == "left":
        return ["(", kind[1], ",)"]
    if kind[0] == "right":
        return ["(,", kind[1], ")"]
    if kind[0] == "both":
        return ["(", kind[1], ",", kind[2], ")"]
    row = ["["]
    for one in kind[1]:
        if len(row) > 1:
            row.append(" ")
        row.append(one)
    return row + [":", kind[2], "]"]


def read_kind(text):
    # Each frame holds what stands in a bracket that isn't closed yet: signs as texts, kinds as tuples.
    frames = [[]]
    for piece in pieces_of(text, SIGNS):
        if piece == "[" or piece == "(":
            frames.append([piece])
        elif piece == "]" or piece == ")":
            closed = frames.pop()
            if len(frames) == 0:
                raise NoText(0)
            frames[-1].append(kind_closed(closed, piece))
        else:
            frames[-1].append(read_piece(piece))
    if len(frames) != 1 or len(frames[0]) != 1 or not is_kind(frames[0][0]):
        raise NoText(0)
    return frames[0][0]


def read_piece(piece):
    if piece in " :,":
        return piece
    if piece == "~":
        return ("some",)
    if not is_whole_text(piece, MOST_FIGURES):
        raise NoText(0)
    return ("is", int(piece))


def kind_closed(frame, sign):
    # Whether what stands there in a kind's place is one, and bags are in order, is asked of the whole at the end.
    if frame[0] == "[" and sign == "]":
        return way_closed(frame[1:])
    if frame[0] == "(" and sign == ")":
        return pair_closed(frame[1:])
    raise NoText(0)


def way_closed(row):
    if len(row) < 2 or row[-2] != ":":
        raise NoText(0)
    # In the row K, blank, K, .. every other one is a blank.
    bag = row[:-2]
    kinds = bag[0::2]
    if bag[1::2] != [" "] * (len(kinds) - 1):
        raise NoText(0)
    return ("way", tuple(kinds), row[-1])


def pair_closed(row):
    if len(row) == 2 and row[1] == ",":
        return ("left", row[0])
    if len(row) == 2 and row[0] == ",":
        return ("right", row[1])
    if len(row) == 3 and row[1] == ",":
        return ("both", row[0], row[2])
    raise NoText(0)
