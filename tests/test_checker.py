import copy
import unittest

from kindbags.bags import beneath, books_added
from kindbags.checker import looked, stands
from kindbags.errors import BagError, NoPaper
from kindbags.kinds import answer_kind
from kindbags.papers import lines, marks
from kindbags.papertexts import in_order, read_paper
from kindbags.places import at_place
from kindbags.reader import read

from plain import Wrong, drawn_programs, plain_inners, plain_lines, plain_looked, plain_paper, plain_run, rebuilt
from samples import (ANSWERING, SOME, both, chain, first, give, left, look, name, num, pair, plus, right, same, second, to,
                     way, whole)

DOT, TILDE = ("whole",), ("some",)
ONE, TWO, THREE = num(1), num(2), num(3)


def line(kind):
    return ("name", kind)


# A program, a paper of it, its kind and its book.
GOOD = [
    (name(0), line(ONE), ONE, {0: (ONE,)}),
    (name(7), line(to([ONE, SOME], left(SOME))), to([ONE, SOME], left(SOME)), {7: (to([ONE, SOME], left(SOME)),)}),
    (whole(-5), DOT, num(-5), {}),
    (way(name(0)), TILDE, SOME, {}),
    (way(name(3)), TILDE, SOME, {}),
    (way(name(0)), ("way", line(ONE)), to([ONE], ONE), {}),
    (way(whole(5)), ("way", DOT), to([], num(5)), {}),
    (way(name(1)), ("way", line(ONE)), to([], ONE), {0: (ONE,)}),
    (way(name(4)), ("way", line(SOME)), to([], SOME), {3: (SOME,)}),
    (way(plus(name(0), name(0))), ("way", ("plus", line(TWO), line(ONE))), to([ONE, TWO], THREE), {}),
    (way(plus(name(0), name(2))), ("way", ("plus", line(TWO), line(ONE))), to([TWO], THREE), {1: (ONE,)}),
    (way(way(plus(name(0), name(1)))), ("way", ("way", ("plus", line(ONE), line(TWO)))), to([TWO], to([ONE], THREE)), {}),
    (way(way(name(0))), ("way", TILDE), to([], SOME), {}),
    (give(way(whole(5)), name(0)), ("give", ("way", DOT), ()), num(5), {}),
    (give(way(name(0)), whole(3)), ("give", ("way", line(THREE)), (DOT,)), THREE, {}),
    (give(name(0), name(1)), ("give", line(to([], ONE)), ()), ONE, {0: (to([], ONE),)}),
    (give(name(0), name(0)), ("give", line(to([ONE], TWO)), (line(ONE),)), TWO, {0: (ONE, to([ONE], TWO))}),
    (give(name(0), name(1)), ("give", line(to([ONE, ONE, TWO], SOME)), (line(TWO), line(ONE), line(ONE))), SOME,
     {0: (to([ONE, ONE, TWO], SOME),), 1: (ONE, ONE, TWO)}),
    (give(way(plus(name(0), name(0))), whole(3)), ("give", ("way", ("plus", line(THREE), line(THREE))), (DOT, DOT)), num(6),
     {}),
    (pair(whole(1), name(9)), ("left", DOT), left(ONE), {}),
    (pair(name(9), whole(1)), ("right", DOT), right(ONE), {}),
    (pair(name(9), whole(1)), ("left", line(right(ONE))), left(right(ONE)), {9: (right(ONE),)}),
    (pair(whole(1), whole(2)), ("both", DOT, DOT), both(ONE, TWO), {}),
    (pair(name(0), name(0)), ("both", line(SOME), line(both(ONE, ONE))), both(SOME, both(ONE, ONE)),
     {0: (both(ONE, ONE), SOME)}),
    (pair(way(name(0)), whole(2)), ("both", TILDE, DOT), both(SOME, TWO), {}),
    (first(pair(whole(1), whole(2))), ("first", ("left", DOT)), ONE, {}),
    (first(name(2)), ("first", line(left(right(SOME)))), right(SOME), {2: (left(right(SOME)),)}),
    (second(pair(whole(1), whole(2))), ("second", ("right", DOT)), TWO, {}),
    (second(name(2)), ("second", line(right(ONE))), ONE, {2: (right(ONE),)}),
    (plus(whole(1), whole(-4)), ("plus", DOT, DOT), num(-3), {}),
    (plus(name(0), name(1)), ("plus", line(ONE), line(TWO)), THREE, {0: (ONE,), 1: (TWO,)}),
    (look(whole(0), whole(1), whole(2)), ("look", DOT, DOT), ONE, {}),
    (look(whole(5), whole(1), whole(2)), ("look", DOT, DOT), TWO, {}),
    (look(name(0), whole(1), name(1)), ("look", line(num(0)), DOT), ONE, {0: (num(0),)}),
    (look(name(0), whole(1), name(1)), ("look", line(num(-1)), line(SOME)), SOME, {0: (num(-1),), 1: (SOME,)}),
    (look(name(0), name(0), way(name(0))), ("look", line(num(7)), TILDE), SOME, {0: (num(7),)}),
]

# A program, what is no paper of it, and the path of the line that is found wrong.
WRONG = [
    # Forms and words.
    (whole(1), TILDE, ()),
    (whole(1), ("whole", 1), ()),
    (whole(1), ("name", ONE), ()),
    (name(0), DOT, ()),
    (name(0), TILDE, ()),
    (name(0), ("name",), ()),
    (name(0), ("name", ONE, ONE), ()),
    (name(0), ("name", ("is", True)), ()),
    (name(0), ("name", None), ()),
    (name(0), ("name", 1), ()),
    (name(0), ("name", ("way", (TWO, ONE), ONE)), ()),
    (name(0), ("name", ("way", [ONE], ONE)), ()),
    (name(0), ("name", both(left(ONE), ONE)), ()),
    (name(0), ["name", ONE], ()),
    (way(name(0)), ("some", 1), ()),
    (way(name(0)), ("way",), ()),
    (way(name(0)), ("way", line(ONE), line(ONE)), ()),
    (way(name(0)), ("give", line(ONE), ()), ()),
    (way(name(0)), ("way", TILDE), (0,)),
    (way(name(0)), ("way", DOT), (0,)),
    (way(name(0)), ("way", None), (0,)),
    (way(name(0)), ("way", ("name", "1")), (0,)),
    (pair(whole(1), whole(2)), ("both", DOT), ()),
    (pair(whole(1), whole(2)), ("left", DOT, DOT), ()),
    (pair(whole(1), whole(2)), ("left",), ()),
    (pair(whole(1), whole(2)), ("pair", DOT, DOT), ()),
    (pair(whole(1), whole(2)), ("first", DOT), ()),
    (pair(whole(1), whole(2)), ("both", TILDE, TILDE), (0,)),
    (pair(whole(1), whole(2)), ("both", DOT, TILDE), (1,)),
    (pair(whole(1), way(name(0))), ("left", TILDE), (0,)),
    (pair(whole(1), way(name(0))), ("right", DOT), (0,)),
    (first(name(0)), ("second", line(right(ONE))), ()),
    (first(name(0)), ("first",), ()),
    (second(name(0)), ("first", line(left(ONE))), ()),
    (plus(name(0), name(0)), ("plus", line(ONE)), ()),
    (plus(name(0), name(0)), ("plus", line(ONE), line(ONE), line(ONE)), ()),
    (look(name(0), whole(1), whole(2)), ("look", line(ONE)), ()),
    (look(name(0), whole(1), whole(2)), ("look", line(ONE), DOT, DOT), ()),
    (give(name(0), name(1)), ("give", line(to([], ONE))), ()),
    (give(name(0), name(1)), ("give", line(to([], ONE)), (), ()), ()),
    (give(name(0), name(1)), ("give", line(to([], ONE)), None), ()),
    (give(name(0), name(1)), ("give", line(to([], ONE)), []), ()),
    (give(name(0), name(1)), ("give", line(to([ONE], ONE)), [line(ONE)]), ()),
    (give(name(0), name(1)), ("give", line(to([ONE], ONE)), line(ONE)), (1,)),
    (give(name(0), name(1)), ("give", line(to([ONE], ONE)), DOT), (1,)),
    (give(name(0), name(1)), ("give", None, None), ()),
    # What is asked of the kinds.
    (give(name(0), name(1)), ("give", line(ONE), ()), ()),
    (give(name(0), name(1)), ("give", line(SOME), ()), ()),
    (give(way(name(0)), name(1)), ("give", TILDE, ()), ()),
    (give(name(0), name(1)), ("give", line(to([], ONE)), (line(ONE),)), ()),
    (give(name(0), name(1)), ("give", line(to([ONE], ONE)), ()), ()),
    (give(name(0), name(1)), ("give", line(to([ONE], ONE)), (line(TWO),)), ()),
    (give(name(0), name(1)), ("give", line(to([ONE, ONE], ONE)), (line(ONE),)), ()),
    (give(name(0), name(1)), ("give", line(to([ONE], ONE)), (line(ONE), line(ONE))), ()),
    (give(way(name(0)), whole(3)), ("give", ("way", line(TWO)), (DOT,)), ()),
    (pair(name(0), name(1)), ("both", line(left(ONE)), line(ONE)), ()),
    (pair(name(0), name(1)), ("both", line(ONE), line(to([], ONE))), ()),
    (pair(name(0), name(1)), ("both", line(ONE), line(right(ONE))), ()),
    (pair(way(whole(1)), whole(1)), ("both", ("way", DOT), DOT), ()),
    (first(name(0)), ("first", line(right(ONE))), ()),
    (first(name(0)), ("first", line(both(ONE, ONE))), ()),
    (first(pair(whole(1), whole(2))), ("first", ("both", DOT, DOT)), ()),
    (first(pair(whole(1), whole(2))), ("first", ("right", DOT)), ()),
    (second(name(0)), ("second", line(left(ONE))), ()),
    (second(name(0)), ("second", line(ONE)), ()),
    (plus(name(0), name(0)), ("plus", line(ONE), line(SOME)), ()),
    (plus(name(0), name(0)), ("plus", line(left(ONE)), line(ONE)), ()),
    (look(name(0), whole(1), whole(2)), ("look", line(SOME), DOT), ()),
    # A look's P ahead of its Q, and Q of the other inner one.
    (look(name(0), whole(1), whole(2)), ("look", line(SOME), None), ()),
    (look(name(0), whole(1), whole(2)), ("look", line(left(ONE)), TILDE), ()),
    (look(name(0), whole(1), way(name(0))), ("look", line(num(0)), TILDE), (1,)),
    (look(name(0), whole(1), way(name(0))), ("look", line(ONE), DOT), (1,)),
    (look(whole(0), name(0), whole(1)), ("look", DOT, DOT), (1,)),
    (look(whole(1), name(0), whole(1)), ("look", DOT, line(ONE)), (1,)),
    # Of two that are wrong the one that is looked at first.
    (plus(name(0), name(0)), ("plus", None, None), (0,)),
    (plus(name(0), name(0)), ("plus", line(SOME), None), (1,)),
    (plus(plus(name(0), name(0)), name(0)), ("plus", ("plus", line(SOME), line(ONE)), None), (0,)),
    (plus(plus(name(0), name(0)), name(0)), ("plus", ("plus", line(SOME), None), None), (0, 1)),
    (pair(first(name(0)), name(0)), ("both", ("first", line(ONE)), DOT), (0,)),
    (pair(name(0), first(name(0))), ("both", line(left(ONE)), ("first", line(ONE))), (1,)),
    (give(first(name(0)), name(1)), ("give", ("first", line(ONE)), (None,)), (0,)),
    (give(first(name(0)), name(1)), ("give", ("first", line(left(ONE))), (None,)), (1,)),
    (give(name(0), name(1)), ("give", line(ONE), (line(ONE), None, None)), (2,)),
    (give(name(0), first(name(1))), ("give", line(ONE), (("first", line(ONE)), None)), (1,)),
    (give(name(0), name(1)), ("give", None, [None]), ()),
    (give(name(0), give(name(1), name(2))), ("give", line(ONE), (("give", line(to([], ONE)), ()), ("give", DOT, 5))), (2,)),
    (look(plus(name(0), name(0)), whole(1), whole(2)), ("look", ("plus", line(ONE), line(SOME)), None), (0,)),
    (way(way(name(0))), ("way", ("way", ("way", line(ONE)))), (0, 0)),
    (way(way(plus(name(0), name(1)))), ("way", ("way", ("plus", line(ONE), line(left(ONE))))), (0, 0)),
]

THINGS = [None, True, False, 0, 1, "name", "whole", "", ".", [], (), [DOT], ["whole"], (DOT,), ("whole", None), (None,), (1,),
          (True,), ("hole", ONE, ()), ("some", "some"), (["whole"],), (("whole",), 1), ("Whole",), ("pair", DOT, DOT),
          ("name", (ONE,)), ("give", DOT, [DOT])]

RUNS = [(program, plain_paper(program)) for program in [read(text) for text in ANSWERING]]


def refusal_of(program, paper):
    try:
        looked(program, paper)
    except NoPaper as refusal:
        return refusal.at
    return None


def plain_refusal(program, paper):
    try:
        plain_looked(program, paper)
    except Wrong as wrong:
        return wrong.args[0]
    return None


def with_line(paper, path, other):
    if path == ():
        return other
    inners = list(plain_inners(paper))
    inners[path[0]] = with_line(inners[path[0]], path[1:], other)
    return rebuilt(paper, inners)


class LookedTest(unittest.TestCase):
    def test_each_form(self):
        for program, paper, kind, book in GOOD:
            self.assertEqual(looked(program, paper), (kind, book), (program, paper))

    def test_each_form_within_others(self):
        for program, paper, kind, book in GOOD:
            self.assertEqual(looked(pair(whole(1), program), ("right", paper)), (right(kind), book))
            self.assertEqual(looked(give(way(whole(1)), program), ("give", ("way", DOT), ())), (ONE, {}))
            self.assertEqual(looked(give(way(name(0)), program), ("give", ("way", line(kind)), (paper,))), (kind, book))
            bag, below = beneath(book)
            self.assertEqual(looked(way(program), ("way", paper)), (("way", bag, kind), below))
            twice = give(name(2), program)
            added = books_added([book, book, {2: (to([kind, kind], SOME),)}])
            self.assertEqual(looked(twice, ("give", line(to([kind, kind], SOME)), (paper, paper))), (SOME, added))

    def test_wrong_ones(self):
        for program, paper, at in WRONG:
            self.assertEqual(refusal_of(program, paper), at, (program, paper))
            self.assertEqual(plain_refusal(program, paper), at, (program, paper))

    def test_wrong_ones_within_others(self):
        for program, paper, at in WRONG:
            for around, whole_paper, path in (
                    (way(program), ("way", paper), (0,)),
                    (pair(whole(1), program), ("right", paper), (0,)),
                    (pair(whole(1), program), ("both", DOT, paper), (1,)),
                    (look(whole(1), name(0), program), ("look", DOT, paper), (1,)),
                    (give(name(0), program), ("give", line(SOME), (paper,)), (1,)),
                    (give(name(0), pair(program, whole(1))), ("give", line(SOME), (("right", DOT), ("left", paper))), (2, 0))):
                self.assertEqual(refusal_of(around, whole_paper), path + at)

    def test_things_that_are_none(self):
        for program, paper, kind, book in GOOD:
            for thing in THINGS:
                self.assertEqual(refusal_of(program, thing), plain_refusal(program, thing), (program, thing))
                self.assertIsNotNone(refusal_of(program, thing))
                for path, one in plain_lines(paper):
                    wrong = with_line(paper, path, thing)
                    self.assertEqual(refusal_of(program, wrong), path, (program, wrong))

    def test_papers_of_runs(self):
        for program, paper in RUNS:
            programs, places = plain_run(program)
            self.assertEqual(looked(program, paper), (answer_kind(programs[-1]), {}))
            self.assertEqual(marks(paper), len(places))
            for (path, one), place in zip(lines(paper), stands(program, paper)):
                kind, book, stood = plain_looked(at_place(program, place), one)
                self.assertEqual(looked(at_place(program, place), one), (kind, book))

    def test_papers_of_drawn_programs(self):
        for program in drawn_programs(150, 5):
            paper = plain_paper(program)
            kind, book, places = plain_looked(program, paper)
            self.assertEqual(looked(program, paper), (kind, book))
            self.assertEqual(stands(program, paper), places)
            for (path, one), place in zip(plain_lines(paper), places):
                part = at_place(program, place)
                self.assertEqual(looked(part, one), plain_looked(part, one)[:2])

    def test_one_line_changed(self):
        others = [DOT, TILDE, line(ONE), line(SOME), line(left(ONE)), ("left", DOT), ("way", DOT), ("give", TILDE, ()), None]
        changes = 0
        for program, paper in RUNS[:18]:
            for path, one in plain_lines(paper):
                for other in others:
                    changed = with_line(paper, path, other)
                    self.assertEqual(refusal_of(program, changed), plain_refusal(program, changed))
                    changes += 1
                if one[0] == "give" and one[2]:
                    for papers in (one[2][1:], one[2] + (one[2][0],), one[2] + (None,), list(one[2]), one[2][::-1]):
                        changed = with_line(paper, path, ("give", one[1], papers))
                        self.assertEqual(refusal_of(program, changed), plain_refusal(program, changed))
        self.assertGreater(changes, 500)

    def test_the_order_of_a_gives_papers_is_free(self):
        program = give(name(0), name(1))
        for papers in ((line(ONE), line(TWO), line(SOME)), (line(SOME), line(TWO), line(ONE)),
                       (line(TWO), line(ONE), line(SOME))):
            self.assertEqual(looked(program, ("give", line(to([SOME, ONE, TWO], ONE)), papers)),
                             (ONE, {0: (to([SOME, ONE, TWO], ONE),), 1: (ONE, TWO, SOME)}))

    def test_a_paper_of_another_program(self):
        for program, paper in RUNS:
            for other, more in RUNS:
                self.assertEqual(refusal_of(program, more), plain_refusal(program, more))

    def test_refusals_are_bag_errors(self):
        with self.assertRaises(BagError):
            looked(whole(1), None)
        self.assertIs(type(refusal_of(whole(1), None)), tuple)

    def test_20000_in_all_and_200_within_one_another(self):
        program = name(0)
        for _ in range(60):
            program = first(program)
        deep = None
        for _ in range(199):
            deep = ("first", deep)
        self.assertEqual(refusal_of(program, deep), (0,) * 60)
        self.assertEqual(refusal_of(name(0), ("name", deep)), ())
        wide = tuple(line(ONE) for _ in range(5000))
        self.assertEqual(refusal_of(give(name(0), name(1)), ("give", line(to([], ONE)), wide)), ())
        kind = to([ONE] * 5000, SOME)
        self.assertEqual(looked(give(name(0), name(1)), ("give", line(kind), wide)), (SOME, {0: (kind,), 1: (ONE,) * 5000}))
        self.assertEqual(refusal_of(give(name(0), name(1)), ("give", line(kind), wide[:-1])), ())
        self.assertEqual(refusal_of(give(name(0), name(1)), ("give", line(kind), wide[:-1] + (line(True),))), (5000,))

    def test_what_is_handed_in_stays_and_what_is_told_is_the_askers_own(self):
        program, paper = give(name(0), name(0)), ("give", line(to([ONE], TWO)), (line(ONE),))
        for _ in range(2):
            kind, book = looked(program, paper)
            self.assertEqual((kind, book), (TWO, {0: (ONE, to([ONE], TWO))}))
            self.assertIs(type(looked(program, paper)), tuple)
            book.clear()
            book[5] = ()
        wrong = ["give", [line(ONE)], (None, [True])]
        before = copy.deepcopy(wrong)
        self.assertEqual(refusal_of(program, wrong), ())
        self.assertEqual(refusal_of(program, ("give", wrong, (wrong,))), (0,))
        self.assertEqual(wrong, before)

    def test_what_was_told_whatever_its_size(self):
        program, paper = plus(whole(1), whole(2)), ("plus", DOT, DOT)
        for _ in range(1000):
            program = first(pair(give(way(name(0)), program), whole(0)))
            paper = ("first", ("left", ("give", ("way", line(THREE)), (paper,))))
        self.assertEqual(looked(program, in_order(paper)), (THREE, {}))
        self.assertEqual(refusal_of(program, with_deep(paper, 1000, None)), (0, 0, 1) * 1000)
        places = stands(program, paper)
        self.assertEqual(len(places), 5003)
        self.assertEqual(places[-3:], [(0, 0, 1) * 1000, (0, 0, 1) * 1000 + (0,), (0, 0, 1) * 1000 + (1,)])
        ways = chain(["way"] * 3000, name(3000))
        kind = ONE
        paper = line(ONE)
        for _ in range(3000):
            paper, kind = ("way", paper), to([], kind)
        told, book = looked(ways, paper)
        self.assertTrue(same(told, kind))
        self.assertEqual(book, {0: (ONE,)})
        program = give(way(whole(1)), ways)
        self.assertEqual(looked(program, ("give", ("way", DOT), ())), (ONE, {}))
        program = give(name(0), ways)
        told, book = looked(program, ("give", ("name", ("way", (kind,), SOME)), (paper,)))
        self.assertEqual(told, SOME)
        self.assertEqual(book[0][0], ONE)
        self.assertTrue(same(book[0][1], ("way", (kind,), SOME)))
        self.assertEqual(refusal_of(program, ("give", ("name", ("way", (left(kind),), SOME)), (paper,))), ())


def with_deep(paper, depth, other):
    rounds = []
    for _ in range(depth):
        rounds.append(paper)
        paper = paper[1][1][2][0]
    for one in reversed(rounds):
        other = ("first", ("left", ("give", one[1][1][1], (other,))))
    return other


class StandsTest(unittest.TestCase):
    def test_each_form(self):
        for program, paper, places in (
                (whole(1), DOT, [()]),
                (way(name(0)), TILDE, [()]),
                (way(name(0)), ("way", line(ONE)), [(), (0,)]),
                (pair(whole(1), whole(2)), ("left", DOT), [(), (0,)]),
                (pair(whole(1), whole(2)), ("right", DOT), [(), (1,)]),
                (pair(whole(1), whole(2)), ("both", DOT, DOT), [(), (0,), (1,)]),
                (plus(whole(1), whole(2)), ("plus", DOT, DOT), [(), (0,), (1,)]),
                (look(whole(0), whole(1), whole(2)), ("look", DOT, DOT), [(), (0,), (1,)]),
                (look(whole(3), whole(1), whole(2)), ("look", DOT, DOT), [(), (0,), (2,)]),
                (first(pair(whole(1), whole(2))), ("first", ("left", DOT)), [(), (0,), (0, 0)]),
                (second(pair(whole(1), whole(2))), ("second", ("right", DOT)), [(), (0,), (0, 1)]),
                (give(way(whole(1)), whole(2)), ("give", ("way", DOT), ()), [(), (0,), (0, 0)]),
                (give(way(name(0)), whole(2)), ("give", ("way", line(TWO)), (DOT,)), [(), (0,), (0, 0), (1,)]),
                (give(way(plus(name(0), name(0))), plus(whole(1), whole(1))),
                 read_paper("(give (way (plus #2 #2)) (plus . .) (plus . .))"),
                 [(), (0,), (0, 0), (0, 0, 0), (0, 0, 1), (1,), (1, 0), (1, 1), (1,), (1, 0), (1, 1)]),
                (give(way(give(name(0), name(0))), way(name(0))),
                 read_paper("(give (way (give #[~:~] #~)) (way #~) ~)"),
                 [(), (0,), (0, 0), (0, 0, 0), (0, 0, 1), (1,), (1, 0), (1,)])):
            self.assertEqual(stands(program, paper), places)
            self.assertEqual(plain_looked(program, paper)[2], places)

    def test_papers_of_runs(self):
        for program, paper in RUNS:
            places = stands(program, paper)
            self.assertEqual(places, plain_looked(program, paper)[2])
            self.assertEqual(len(places), len(lines(paper)))

    def test_the_list_is_the_askers_own(self):
        program, paper = RUNS[-1]
        before = list(stands(program, paper))
        told = stands(program, paper)
        self.assertIs(type(told), list)
        told.clear()
        self.assertEqual(stands(program, paper), before)
        for place in before:
            self.assertIs(type(place), tuple)


if __name__ == "__main__":
    unittest.main()
