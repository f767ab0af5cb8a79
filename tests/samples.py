"""Programs for the tests, written by hand and counted up."""

import itertools


def name(k):
    return ("name", k)


def whole(n):
    return ("whole", n)


def way(t):
    return ("way", t)


def give(t, u):
    return ("give", t, u)


def pair(t, u):
    return ("pair", t, u)


def first(t):
    return ("first", t)


def second(t):
    return ("second", t)


def plus(t, u):
    return ("plus", t, u)


def look(t, u, v):
    return ("look", t, u, v)


# One program for each of the nine words, closed but for the name.
OF_EACH_WORD = [
    name(0),
    way(name(0)),
    give(way(name(0)), whole(3)),
    pair(whole(1), whole(2)),
    first(pair(whole(1), whole(2))),
    second(pair(whole(1), whole(2))),
    whole(-7),
    plus(whole(1), whole(2)),
    look(whole(0), whole(1), whole(2)),
]


def small_programs(depth, leaves):
    """All programs that nest at most so deep, of these leaves, a look only of leaves."""
    found = list(leaves)
    for _ in range(depth):
        inner = found
        found = list(leaves)
        for word in ("way", "first", "second"):
            found.extend((word, t) for t in inner)
        for word in ("give", "pair", "plus"):
            found.extend((word, t, u) for t, u in itertools.product(inner, repeat=2))
        found.extend(("look", t, u, v) for t, u, v in itertools.product(leaves, repeat=3))
    return found


def chain(words, leaf):
    """The leaf within programs of one inner one each, the first word outermost."""
    for word in reversed(words):
        leaf = (word, leaf)
    return leaf


def same(one, other):
    """Whether two programs are the same, also where they nest deeper than Python compares."""
    pending = [(one, other)]
    while pending:
        a, b = pending.pop()
        if isinstance(a, tuple) and isinstance(b, tuple):
            if len(a) != len(b):
                return False
            pending.extend(zip(a, b))
        elif isinstance(a, tuple) or isinstance(b, tuple) or a != b:
            return False
    return True


# Texts of closed programs that come to an answer.
ANSWERING = [
    "7",
    "(way x (plus 1 2))",
    "(pair 1 2)",
    "(pair (pair 1 (way x x)) (pair 3 4))",
    "(pair (plus 1 2) (pair (plus 3 4) (way x (plus 1 2))))",
    "(plus 1 (plus 2 3))",
    "(plus (plus 1 2) (plus 3 4))",
    "(give (way x (plus x x)) (plus 1 2))",
    "(give (way x 1) (first 2))",
    "(first (pair 1 (first 2)))",
    "(second (pair (first 2) 1))",
    "(first (second (pair 1 (pair 2 3))))",
    "(look (plus 1 -1) 10 (first 2))",
    "(look -1 (first 2) 20)",
    "(look 5 (first 2) (pair 1 (plus 2 3)))",
    "(give (give (way x (way y (pair y x))) 1) (plus 2 3))",
    "(give (way x (way y x)) (way z z))",
    "(give (way f (give f (give f 1))) (way x (plus x x)))",
    "(give (way f (pair (give f 1) (give f (way y f)))) (way x (pair x (way z x))))",
    "(give (way p (plus (first p) (second p))) (pair (plus 1 2) (plus 3 4)))",
    "(give (give (way f (give f f)) (way f (way n (look n 0 (plus n (give (give f f) (plus n -1))))))) 5)",
    "(pair (give (way x (pair x x)) (give (way x (pair x x)) 1)) (look 0 (way a a) 1))",
]


SOME = ("some",)


def num(n):
    return ("is", n)


def to(bag, k):
    """The kind of a way that is given what is used with the kinds of the bag, put in order here."""
    return ("way", tuple(sorted(bag)), k)


def left(k):
    return ("left", k)


def right(k):
    return ("right", k)


def both(k, m):
    return ("both", k, m)


# Kinds as they are written, and their texts.
KINDS = [
    (num(0), "0"),
    (num(1), "1"),
    (num(7), "7"),
    (num(-12), "-12"),
    (num(999999999999), "999999999999"),
    (num(-999999999999), "-999999999999"),
    (SOME, "~"),
    (left(num(1)), "(1,)"),
    (right(num(1)), "(,1)"),
    (left(right(SOME)), "((,~),)"),
    (right(left(to([], num(1)))), "(,([:1],))"),
    (both(num(1), num(2)), "(1,2)"),
    (both(SOME, SOME), "(~,~)"),
    (both(both(num(1), SOME), both(num(-2), num(3))), "((1,~),(-2,3))"),
    (to([], num(1)), "[:1]"),
    (to([], to([], SOME)), "[:[:~]]"),
    (to([num(1)], num(2)), "[1:2]"),
    (to([num(1), num(1)], SOME), "[1 1:~]"),
    (to([num(2), num(10), num(-3)], num(9)), "[-3 2 10:9]"),
    (to([SOME, num(1), left(num(1)), right(num(1)), both(num(1), num(1)), to([], num(1))], num(1)),
     "[(1,1) 1 (1,) (,1) ~ [:1]:1]"),
    (to([to([num(1)], num(2)), to([], num(2)), to([num(1), num(1)], num(0))], left(SOME)), "[[:2] [1:2] [1 1:0]:(~,)]"),
    (to([to([to([num(1)], num(2))], num(3))], to([num(4)], num(5))), "[[[1:2]:3]:[4:5]]"),
    (left(to([num(1)], both(num(1), SOME))), "([1:(1,~)],)"),
]


def small_kinds(depth):
    """All kinds that nest at most so deep, of few wholes, bags of at most two kinds."""
    found = [SOME, num(0), num(1)]
    for _ in range(depth):
        inner = found
        answers = [k for k in inner if k[0] in ("is", "some", "both")]
        found = [SOME, num(0), num(1)]
        found += [left(k) for k in inner] + [right(k) for k in inner]
        found += [both(k, m) for k, m in itertools.product(answers, repeat=2)]
        for many in range(3):
            bags = itertools.combinations_with_replacement(sorted(inner), many)
            found += [("way", bag, k) for bag in bags for k in inner]
    return found


# A program, the place of a rule, the text of a paper of the program behind it, and, put in order, that of the paper
# of the program itself which it is taken back to.
RULED = [
    (first(pair(whole(1), whole(2))), (), ".", "(first (left .))"),
    (second(pair(whole(1), whole(2))), (), ".", "(second (right .))"),
    (plus(whole(1), whole(2)), (), ".", "(plus . .)"),
    (look(whole(0), whole(1), whole(2)), (), ".", "(look . .)"),
    (look(whole(7), whole(1), way(name(0))), (), "~", "(look . ~)"),
    (look(whole(7), whole(1), way(name(0))), (), "(way #1)", "(look . (way #1))"),
    (first(pair(name(0), name(1))), (), "#(1,)", "(first (left #(1,)))"),
    # What is given is met not at all, once, more often.
    (give(way(whole(5)), whole(2)), (), ".", "(give (way .))"),
    (give(way(way(name(1))), whole(2)), (), "~", "(give (way ~))"),
    (give(way(look(whole(0), whole(1), name(0))), whole(2)), (), "(look . .)", "(give (way (look . .)))"),
    (give(way(name(0)), whole(3)), (), ".", "(give (way #3) .)"),
    (give(way(name(0)), way(name(0))), (), "~", "(give (way #~) ~)"),
    (give(way(name(0)), way(name(0))), (), "(way #1)", "(give (way #[1:1]) (way #1))"),
    (give(way(name(0)), name(4)), (), "#(1,)", "(give (way #(1,)) #(1,))"),
    (give(way(name(1)), whole(3)), (), "#7", "(give (way #7))"),
    (give(way(pair(name(0), name(1))), name(0)), (), "(both #1 #2)", "(give (way (both #1 #2)) #1)"),
    (give(way(plus(name(0), name(0))), whole(3)), (), "(plus . .)", "(give (way (plus #3 #3)) . .)"),
    (give(way(plus(name(0), name(0))), plus(whole(1), whole(2))), (), "(plus (plus . .) (plus . .))",
     "(give (way (plus #3 #3)) (plus . .) (plus . .))"),
    (give(way(pair(name(0), pair(name(0), name(0)))), way(name(0))), (), "(both ~ (both ~ ~))",
     "(give (way (both #~ (both #~ #~))) ~ ~ ~)"),
    (give(way(give(name(0), give(name(0), whole(1)))), way(name(0))), (), "(give (way #1) (give (way #1) .))",
     "(give (way (give #[1:1] (give #[1:1] .))) (way #1) (way #1))"),
    # Put in order: what is taken out last stands first.
    (give(way(plus(look(name(0), whole(1), whole(2)), name(0))), name(0)), (), "(plus (look #5 .) #-5)",
     "(give (way (plus (look #5 .) #-5)) #-5 #5)"),
    # What is given, put in under ways.
    (give(way(way(name(1))), whole(3)), (), "(way .)", "(give (way (way #3)) .)"),
    (give(way(way(pair(name(1), name(0)))), name(0)), (), "(way (both #1 #2))", "(give (way (way (both #1 #2))) #1)"),
    (give(way(way(way(plus(name(2), name(1))))), plus(name(0), whole(1))), (), "(way (way (plus (plus #1 .) #4)))",
     "(give (way (way (way (plus #2 #4)))) (plus #1 .))"),
    (give(way(give(way(plus(name(0), name(1))), name(0))), whole(3)), (), "(give (way (plus #3 .)) .)",
     "(give (way (give (way (plus #3 #3)) #3)) . .)"),
    # Within others.
    (pair(plus(whole(1), whole(2)), whole(4)), (0,), "(both . .)", "(both (plus . .) .)"),
    (pair(whole(4), plus(whole(1), whole(2))), (1,), "(both . .)", "(both . (plus . .))"),
    (way(first(pair(name(0), name(0)))), (0,), "(way #1)", "(way (first (left #1)))"),
    (way(way(give(way(plus(name(0), name(1))), name(1)))), (0, 0), "(way (way (plus #1 #2)))",
     "(way (way (give (way (plus #1 #2)) #1)))"),
    (look(whole(0), plus(whole(1), whole(2)), whole(9)), (1,), "(look . .)", "(look . (plus . .))"),
    (look(whole(3), whole(9), plus(whole(1), whole(2))), (2,), "(look . .)", "(look . (plus . .))"),
    # Several lines at the place.
    (give(way(plus(name(0), name(0))), plus(whole(1), whole(2))), (1,), "(give (way (plus #3 #3)) . .)",
     "(give (way (plus #3 #3)) (plus . .) (plus . .))"),
    (give(name(0), give(way(name(0)), name(1))), (1,), "(give #[1 2 ~:3] #~ #1 #2)",
     "(give #[1 2 ~:3] (give (way #1) #1) (give (way #2) #2) (give (way #~) #~))"),
    (give(name(0), first(pair(name(1), whole(1)))), (1,), "(give #[1 2:3] #2 #1)",
     "(give #[1 2:3] (first (left #1)) (first (left #2)))"),
    # No line at the place: the paper, put in order.
    (pair(plus(whole(1), whole(2)), whole(4)), (0,), "(right .)", "(right .)"),
    (way(plus(whole(1), whole(2))), (0,), "~", "~"),
    (give(way(whole(1)), plus(whole(1), whole(2))), (1,), "(give (way .))", "(give (way .))"),
    (look(whole(0), whole(9), plus(whole(1), whole(2))), (2,), "(look . .)", "(look . .)"),
    (look(whole(1), give(way(name(0)), whole(1)), whole(9)), (1,), "(look . .)", "(look . .)"),
    (pair(give(name(0), name(1)), plus(whole(1), whole(2))), (1,), "(left (give #[1 1 2:3] #2 #1 #1))",
     "(left (give #[1 1 2:3] #1 #1 #2))"),
]


# Texts of closed programs that come to no answer, and what is told of them within 400 rules.
NO_ANSWER = [
    ("(first 1)", "stuck"),
    ("(plus 1 (way x x))", "stuck"),
    ("(give 1 2)", "stuck"),
    ("(pair 1 (second (way x x)))", "stuck"),
    ("(look (pair 1 2) 1 2)", "stuck"),
    ("(give (way x (first x)) (way y y))", "stuck"),
    ("(give (way x (give x x)) (way x (give x x)))", "more"),
    ("(pair (plus 1 2) (give (way x (give x x)) (way x (give x x))))", "more"),
    ("(give (way x (give x x)) (way x (plus 1 (give x x))))", "great"),
    ("(give (way x (give x x)) (way x (pair (give x x) 1)))", "great"),
    ("(give (way x (give x x)) (way x (pair (give x x) (way y (pair (pair (pair (pair 1 2) (pair 3 4)) (pair (pair 5 6)"
     " (pair 7 8))) (pair (pair (pair 1 2) (pair 3 4)) (pair (pair 5 6) (pair 7 8))))))))", "great"),
]


def sum_of(things):
    """The sum of these things, its pluses as flat as they can be."""
    if len(things) == 1:
        return things[0]
    half = len(things) // 2
    return plus(sum_of(things[:half]), sum_of(things[half:]))


def many_lines(times, names):
    """A program whose paper has many lines: in gives within one another something is met so many times each, the
    innermost being a whole that is come to by so many names."""
    tree = name(0)
    for many in reversed(times):
        tree = give(way(sum_of([name(0)] * many)), tree)
    for k in range(names):
        tree = give(way(tree), whole(1) if k == names - 1 else name(0))
    return tree


# Programs, and places of them where no rule can go.
NO_RULES = [
    (whole(1), ()),
    (name(0), ()),
    (way(name(0)), ()),
    (pair(whole(1), whole(2)), ()),
    (give(whole(1), whole(2)), ()),
    (first(whole(1)), ()),
    (second(way(name(0))), ()),
    (plus(whole(1), way(name(0))), ()),
    (plus(way(name(0)), whole(1)), ()),
    (look(way(name(0)), whole(1), whole(2)), ()),
    (pair(plus(whole(1), whole(2)), whole(1)), ()),
    (pair(plus(whole(1), whole(2)), whole(1)), (1,)),
    # Places that aren't there.
    (whole(1), (0,)),
    (plus(whole(1), whole(2)), (2,)),
    (plus(whole(1), whole(2)), (-1,)),
    (plus(whole(1), whole(2)), (0, 0)),
    (pair(plus(whole(1), whole(2)), whole(1)), (-2,)),
    (plus(whole(1), whole(2)), (5, 5)),
]
