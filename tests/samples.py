"""Programs for the tests, written by hand and counted up."""

import itertools


def name(k):
    return ("name", k)


def whole(n):
    return ("whole", n)


def way(t):
    return ("way", t)


def give(t, u):
    return ("give", t, u)


def pair(t, u):
    return ("pair", t, u)


def first(t):
    return ("first", t)


def second(t):
    return ("second", t)


def plus(t, u):
    return ("plus", t, u)


def look(t, u, v):
    return ("look", t, u, v)


# One program for each of the nine words, closed but for the name.
OF_EACH_WORD = [
    name(0),
    way(name(0)),
    give(way(name(0)), whole(3)),
    pair(whole(1), whole(2)),
    first(pair(whole(1), whole(2))),
    second(pair(whole(1), whole(2))),
    whole(-7),
    plus(whole(1), whole(2)),
    look(whole(0), whole(1), whole(2)),
]


def small_programs(depth, leaves):
    """All programs that nest at most so deep, of these leaves, a look only of leaves."""
    found = list(leaves)
    for _ in range(depth):
        inner = found
        found = list(leaves)
        for word in ("way", "first", "second"):
            found.extend((word, t) for t in inner)
        for word in ("give", "pair", "plus"):
            found.extend((word, t, u) for t, u in itertools.product(inner, repeat=2))
        found.extend(("look", t, u, v) for t, u, v in itertools.product(leaves, repeat=3))
    return found


def chain(words, leaf):
    """The leaf within programs of one inner one each, the first word outermost."""
    for word in reversed(words):
        leaf = (word, leaf)
    return leaf


def same(one, other):
    """Whether two programs are the same, also where they nest deeper than Python compares."""
    pending = [(one, other)]
    while pending:
        a, b = pending.pop()
        if isinstance(a, tuple) and isinstance(b, tuple):
            if len(a) != len(b):
                return False
            pending.extend(zip(a, b))
        elif isinstance(a, tuple) or isinstance(b, tuple) or a != b:
            return False
    return True


# Texts of closed programs that come to an answer.
ANSWERING = [
    "7",
    "(way x (plus 1 2))",
    "(pair 1 2)",
    "(pair (pair 1 (way x x)) (pair 3 4))",
    "(pair (plus 1 2) (pair (plus 3 4) (way x (plus 1 2))))",
    "(plus 1 (plus 2 3))",
    "(plus (plus 1 2) (plus 3 4))",
    "(give (way x (plus x x)) (plus 1 2))",
    "(give (way x 1) (first 2))",
    "(first (pair 1 (first 2)))",
    "(second (pair (first 2) 1))",
    "(first (second (pair 1 (pair 2 3))))",
    "(look (plus 1 -1) 10 (first 2))",
    "(look -1 (first 2) 20)",
    "(look 5 (first 2) (pair 1 (plus 2 3)))",
    "(give (give (way x (way y (pair y x))) 1) (plus 2 3))",
    "(give (way x (way y x)) (way z z))",
    "(give (way f (give f (give f 1))) (way x (plus x x)))",
    "(give (way f (pair (give f 1) (give f (way y f)))) (way x (pair x (way z x))))",
    "(give (way p (plus (first p) (second p))) (pair (plus 1 2) (plus 3 4)))",
    "(give (give (way f (give f f)) (way f (way n (look n 0 (plus n (give (give f f) (plus n -1))))))) 5)",
    "(pair (give (way x (pair x x)) (give (way x (pair x x)) 1)) (look 0 (way a a) 1))",
]


SOME = ("some",)


def num(n):
    return ("is", n)


def to(bag, k):
    """The kind of a way that is given what is used with the kinds of the bag, put in order here."""
    return ("way", tuple(sorted(bag)), k)


def left(k):
    return ("left", k)


def right(k):
    return ("right", k)


def both(k, m):
    return ("both", k, m)


# Kinds as they are written, and their texts.
KINDS = [
    (num(0), "0"),
    (num(1), "1"),
    (num(7), "7"),
    (num(-12), "-12"),
    (num(999999999999), "999999999999"),
    (num(-999999999999), "-999999999999"),
    (SOME, "~"),
    (left(num(1)), "(1,)"),
    (right(num(1)), "(,1)"),
    (left(right(SOME)), "((,~),)"),
    (right(left(to([], num(1)))), "(,([:1],))"),
    (both(num(1), num(2)), "(1,2)"),
    (both(SOME, SOME), "(~,~)"),
    (both(both(num(1), SOME), both(num(-2), num(3))), "((1,~),(-2,3))"),
    (to([], num(1)), "[:1]"),
    (to([], to([], SOME)), "[:[:~]]"),
    (to([num(1)], num(2)), "[1:2]"),
    (to([num(1), num(1)], SOME), "[1 1:~]"),
    (to([num(2), num(10), num(-3)], num(9)), "[-3 2 10:9]"),
    (to([SOME, num(1), left(num(1)), right(num(1)), both(num(1), num(1)), to([], num(1))], num(1)),
     "[(1,1) 1 (1,) (,1) ~ [:1]:1]"),
    (to([to([num(1)], num(2)), to([], num(2)), to([num(1), num(1)], num(0))], left(SOME)), "[[:2] [1:2] [1 1:0]:(~,)]"),
    (to([to([to([num(1)], num(2))], num(3))], to([num(4)], num(5))), "[[[1:2]:3]:[4:5]]"),
    (left(to([num(1)], both(num(1), SOME))), "([1:(1,~)],)"),
]


def small_kinds(depth):
    """All kinds that nest at most so deep, of few wholes, bags of at most two kinds."""
    found = [SOME, num(0), num(1)]
    for _ in range(depth):
        inner = found
        answers = [k for k in inner if k[0] in ("is", "some", "both")]
        found = [SOME, num(0), num(1)]
        found += [left(k) for k in inner] + [right(k) for k in inner]
        found += [both(k, m) for k, m in itertools.product(answers, repeat=2)]
        for many in range(3):
            bags = itertools.combinations_with_replacement(sorted(inner), many)
            found += [("way", bag, k) for bag in bags for k in inner]
    return found
