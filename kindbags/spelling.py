"""Texts put together and taken apart."""


def spelled_out(thing, spelled):
    # The text of a thing, spelled(thing) telling a list of texts and of things whose texts are to stand there.
    pieces = []
    pending = [thing]
    while pending:
        one = pending.pop()
        if isinstance(one, str):
            pieces.append(one)
        else:
            pending.extend(list(reversed(spelled(one))))
    return "".join(pieces)


def bracketed(word, things):
    row = ["(" + word]
    for one in things:
        row.append(" ")
        row.append(one)
    row.append(")")
    return row


def pieces_of(text, signs):
    # Each of these signs is a piece by itself, and so is all that stands between two of them.
    pieces = []
    start = 0
    for at, sign in enumerate(text):
        if sign in signs:
            if start < at:
                pieces.append(text[start:at])
            pieces.append(sign)
            start = at + 1
    if start < len(text):
        pieces.append(text[start:])
    return pieces
