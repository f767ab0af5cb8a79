"""Programs for the tests, written by hand and counted up."""

import itertools


def name(k):
    return ("name", k)


def whole(n):
    return ("whole", n)


def way(t):
    return ("way", t)


def give(t, u):
    return ("give", t, u)


def pair(t, u):
    return ("pair", t, u)


def first(t):
    return ("first", t)


def second(t):
    return ("second", t)


def plus(t, u):
    return ("plus", t, u)


def look(t, u, v):
    return ("look", t, u, v)


# One program for each of the nine words, closed but for the name.
OF_EACH_WORD = [
    name(0),
    way(name(0)),
    give(way(name(0)), whole(3)),
    pair(whole(1), whole(2)),
    first(pair(whole(1), whole(2))),
    second(pair(whole(1), whole(2))),
    whole(-7),
    plus(whole(1), whole(2)),
    look(whole(0), whole(1), whole(2)),
]


def small_programs(depth, leaves):
    """All programs that nest at most so deep, of these leaves, a look only of leaves."""
    found = list(leaves)
    for _ in range(depth):
        inner = found
        found = list(leaves)
        for word in ("way", "first", "second"):
            found.extend((word, t) for t in inner)
        for word in ("give", "pair", "plus"):
            found.extend((word, t, u) for t, u in itertools.product(inner, repeat=2))
        found.extend(("look", t, u, v) for t, u, v in itertools.product(leaves, repeat=3))
    return found


def chain(words, leaf):
    """The leaf within programs of one inner one each, the first word outermost."""
    for word in reversed(words):
        leaf = (word, leaf)
    return leaf


def same(one, other):
    """Whether two programs are the same, also where they nest deeper than Python compares."""
    pending = [(one, other)]
    while pending:
        a, b = pending.pop()
        if isinstance(a, tuple) and isinstance(b, tuple):
            if len(a) != len(b):
                return False
            pending.extend(zip(a, b))
        elif isinstance(a, tuple) or isinstance(b, tuple) or a != b:
            return False
    return True
