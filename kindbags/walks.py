"""Walks through things that have inner ones: programs, kinds, papers.

What was told may nest deeper than calls may go within one another, so these walks keep their own lists.
"""

ITEM = 1
END = 0


def walked(thing, inners_of):
    # The thing itself, then what is in its inner ones, in order.
    found = []
    pending = [thing]
    while pending:
        one = pending.pop()
        found.append(one)
        pending.extend(list(reversed(inners_of(one))))
    return found


def with_paths(thing, inners_of):
    # As walked, each beside its path: (k, ..) is the path (..) in the k-th inner one.
    found = []
    pending = [((), thing)]
    while pending:
        entry = pending.pop()
        found.append(entry)
        inners = inners_of(entry[1])
        # The last one is laid down first, so that the first one is taken up first.
        for k in range(len(inners) - 1, -1, -1):
            pending.append((entry[0] + (k,), inners[k]))
    return found


def folded(thing, inners_of, made_of):
    # What made_of(one, what was made of its inner ones) tells, from the innermost out.
    made = []
    for one in reversed(walked(thing, inners_of)):
        # The last inner one was made first, so the first one lies on top.
        made.append(made_of(one, [made.pop() for part in inners_of(one)]))
    return made.pop()


def path_of(trail):
    # A trail (trail of what is around, number), None at the outermost, stands for a path until it is asked
    # for, as the paths of all that is around something deep would be long.
    numbers = []
    rest = trail
    while rest is not None:
        numbers.append(rest[1])
        rest = rest[0]
    return tuple(reversed(numbers))


def flat(thing):
    # A list without lists in it, by which tuples of one form are sorted just as Python sorts the tuples
    # themselves, however deep they nest: ahead of each item stands ITEM, behind the last one END, which is less.
    told = []
    pending = [thing]
    while pending:
        one = pending.pop()
        if isinstance(one, tuple):
            pending.append(END)
            for item in reversed(one):
                pending.append(item)
                pending.append(ITEM)
        else:
            told.append(one)
    return told
