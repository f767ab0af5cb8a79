"""Walks through things that have inner ones: programs, kinds, papers.

What was told may nest deeper than calls may go within one another, so these walks keep their own lists.
"""

ITEM = 1
END = 0


def walked(thing, inners_of):
    # The thing itself, then what is in its inner ones, in order.
    found = []
    pending = [thing]
    while pending:
        one = pending.pop()
        found.append(one)
        pending.extend(list(reversed(inners_of(one))))
    return found


def with_paths(thing, inners_of):
    # As walked, each beside its path: (k, ..) is the path (..) in the k-th inner one.
    found = []
    pending = [((), thing)]
    while pending:
        entry = pending.pop()
        found.append(entry)
        inners = inners_of(entry[1])
        # The last one is laid down first, so that the first one is taken up first.
        for k in range(len(inners) - 1, -1, -1):
            pending.append((entry[0] + (k,), inners[k]))
    return found


def folded(thing, inners_of, made_of):
    # What made_of(one, what was made of its inner ones) tells, from the innermost out.
    made = []
    for one in reversed(walked(thing, inners_of)):
        # The last inner one was made first, so the first one lies on top.
        made.append(made_of(one, [made.pop() for part in inners_of(one)]))
    return made.pop()


def is_over(thing, inners_of, most, deepest):
    # Whether more than so many stand in it, itself one, or it nests deeper. Looks at no more than it must: one
    # rule may multiply a program's parts by thousands.
    many = 0
    pending = [(thing, 0)]
    while pending:
        entry = pending.pop()
        many += 1
        if many > most or entry[1] > deepest:
            return True
        pending.extend([(one, entry[1] + 1) for one in inners_of(entry[0])])
    return False


def path_of(trail):
    # A trail (trail of what is around, number), None at the outermost, stands for a path until it is asked
    # for, as the paths of all that is around something deep would be long.
    numbers = []
    rest = trail
    while rest is not None:
        numbers.append(rest[1])
        rest = rest[0]
    return tuple(reversed(numbers))


def flat(thing):
    # A list without lists in it, by which kinds, papers and rows of them are sorted just as Python sorts the
    # tuples themselves, however deep they nest. How long a tuple is that begins with a word hangs on the word
    # alone; in a row ITEM stands ahead of each item and END, which is less, behind the last one.
    told = []
    pending = [thing]
    while pending:
        one = pending.pop()
        if not isinstance(one, tuple):
            told.append(one)
        elif len(one) > 0 and isinstance(one[0], str):
            pending.extend(one[::-1])
        else:
            pending.append(END)
            for item in reversed(one):
                pending.append(item)
                pending.append(ITEM)
    return told


def flat_sorted(things):
    # A tuple of these kinds or papers, sorted. One by itself, which may be large, needs no looking at.
    if len(things) < 2:
        return tuple(things)
    return tuple(sorted(things, key=flat))
