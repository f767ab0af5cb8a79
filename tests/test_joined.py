import copy
import unittest

from kindbags.checker import looked
from kindbags.errors import BagError, NoFit, NoPaper
from kindbags.joined import around_looked, around_marks, joined
from kindbags.papers import lines, marks
from kindbags.parted import parted
from kindbags.places import at_place, places, replaced
from kindbags.reader import read

from plain import Wrong, drawn_programs, plain_looked, plain_paper
from samples import ANSWERING, SOME, both, first, give, left, look, name, num, pair, plus, right, second, to, way, whole

DOT, TILDE = ("whole",), ("some",)
ONE, TWO, THREE = num(1), num(2), num(3)


def hole(kind, *book):
    return ("hole", kind, tuple(book))


def line(kind):
    return ("name", kind)


# What is around, the papers, and what they are joined.
JOINED = [
    (DOT, [], DOT),
    (("name", left(ONE)), [], ("name", left(ONE))),
    (("give", line(to([], ONE)), ()), [], ("give", line(to([], ONE)), ())),
    (hole(ONE), [DOT], DOT),
    (hole(ONE), [("plus", DOT, DOT)], ("plus", DOT, DOT)),
    (("plus", hole(ONE), DOT), [line(ONE)], ("plus", line(ONE), DOT)),
    (("plus", hole(ONE), hole(TWO)), [line(ONE), DOT], ("plus", line(ONE), DOT)),
    (("plus", hole(ONE), hole(TWO)), [DOT, line(ONE)], ("plus", DOT, line(ONE))),
    (("way", ("left", hole(ONE, (0, (ONE,))))), [line(ONE)], ("way", ("left", line(ONE)))),
    (("look", hole(num(0)), ("first", hole(left(ONE)))), [DOT, ("left", DOT)], ("look", DOT, ("first", ("left", DOT)))),
    (("give", hole(to([ONE, TWO], ONE)), (hole(TWO), DOT, hole(ONE))), [line(to([ONE, TWO], ONE)), line(TWO), DOT],
     ("give", line(to([ONE, TWO], ONE)), (line(TWO), DOT, DOT))),
    # The papers come in as they are, and are not put in order.
    (("give", line(to([ONE, TWO], ONE)), (hole(TWO), hole(ONE))), [line(TWO), line(ONE)],
     ("give", line(to([ONE, TWO], ONE)), (line(TWO), line(ONE)))),
    (("both", hole(ONE), hole(ONE)), [("give", line(to([ONE, TWO], ONE)), (line(TWO), line(ONE))), DOT],
     ("both", ("give", line(to([ONE, TWO], ONE)), (line(TWO), line(ONE))), DOT)),
]


class JoinedTest(unittest.TestCase):
    def test_by_hand(self):
        for around, papers, wanted in JOINED:
            before = copy.deepcopy((around, papers))
            self.assertEqual(joined(around, papers), wanted)
            self.assertEqual(joined(around, papers), wanted)
            self.assertEqual((around, papers), before)
            self.assertIs(type(joined(around, papers)), tuple)

    def test_no_fit(self):
        for around, papers, wanted in JOINED:
            for other in (papers + [DOT], papers + [DOT, DOT], papers[1:], papers[:-1], []):
                if len(other) != len(papers):
                    with self.assertRaises(NoFit):
                        joined(around, other)
        with self.assertRaises(BagError):
            joined(DOT, [DOT])

    def test_marks(self):
        for around, many in ((hole(ONE), 0), (DOT, 0), (("plus", hole(ONE), DOT), 1),
                             (("first", ("left", ("give", hole(ONE), (hole(ONE), ("second", hole(ONE)))))), 3),
                             (("both", ("look", hole(ONE), ("plus", DOT, hole(ONE))), hole(ONE)), 2),
                             # A word within a hole's kind or book is no line.
                             (hole(left(ONE), (0, (left(ONE), to([], ONE)))), 0)):
            self.assertEqual(around_marks(around), many)
        for around, papers, wanted in JOINED:
            self.assertEqual(around_marks(around) + sum([marks(one) for one in papers]), marks(wanted))


# A program, a place, what is around it, and what that tells.
AROUND = [
    (whole(1), (), hole(SOME), SOME, {}),
    (whole(1), (), hole(left(right(TWO)), (0, (ONE, ONE)), (7, (SOME,))), left(right(TWO)), {0: (ONE, ONE), 7: (SOME,)}),
    (plus(whole(1), whole(2)), (0,), ("plus", hole(num(5)), DOT), num(7), {}),
    (plus(whole(1), whole(2)), (1,), ("plus", DOT, hole(num(5), (3, (ONE,)))), num(6), {3: (ONE,)}),
    (plus(name(3), whole(2)), (1,), ("plus", line(TWO), hole(num(5), (3, (ONE, SOME)))), num(7), {3: (ONE, TWO, SOME)}),
    (way(whole(1)), (0,), ("way", hole(ONE)), to([], ONE), {}),
    (way(whole(1)), (0,), ("way", hole(ONE, (0, (SOME,)), (1, (ONE,)), (2, (TWO, TWO)))), to([SOME], ONE),
     {0: (ONE,), 1: (TWO, TWO)}),
    (way(way(whole(1))), (0, 0), ("way", ("way", hole(ONE, (0, (SOME,)), (1, (ONE,)), (3, (TWO,))))),
     to([ONE], to([SOME], ONE)), {1: (TWO,)}),
    (way(pair(name(0), whole(1))), (0, 1), ("way", ("both", line(TWO), hole(SOME, (0, (ONE, THREE))))),
     to([ONE, TWO, THREE], both(TWO, SOME)), {}),
    (give(name(0), whole(1)), (1,), ("give", line(to([ONE, TWO], SOME)), (hole(TWO, (0, (ONE,))), hole(ONE))), SOME,
     {0: (ONE, to([ONE, TWO], SOME))}),
    (give(name(0), whole(1)), (1,), ("give", line(to([], SOME)), ()), SOME, {0: (to([], SOME),)}),
    (give(whole(9), whole(1)), (0,), ("give", hole(to([ONE], TWO)), (DOT,)), TWO, {}),
    (first(whole(9)), (0,), ("first", hole(left(ONE))), ONE, {}),
    (second(whole(9)), (0,), ("second", hole(right(ONE))), ONE, {}),
    (look(first(name(0)), whole(1), whole(2)), (0,), ("look", hole(num(0)), DOT), ONE, {}),
    (look(first(name(0)), whole(1), whole(2)), (0,), ("look", hole(num(3)), DOT), TWO, {}),
    (look(whole(3), whole(1), whole(2)), (2,), ("look", DOT, hole(left(ONE))), left(ONE), {}),
    # No line stands at the place, or there is no such place: no hole.
    (look(whole(3), whole(1), whole(2)), (1,), ("look", DOT, DOT), TWO, {}),
    (pair(whole(1), whole(2)), (0,), ("right", DOT), right(TWO), {}),
    (way(whole(1)), (0,), TILDE, SOME, {}),
    (plus(whole(1), whole(2)), (2,), ("plus", DOT, DOT), THREE, {}),
    (plus(whole(1), whole(2)), (-1,), ("plus", DOT, DOT), THREE, {}),
    (plus(whole(1), whole(2)), (0, 0), ("plus", DOT, DOT), THREE, {}),
    (name(0), (0,), line(ONE), ONE, {0: (ONE,)}),
]

# What is no book of a hole.
NO_BOOKS = [
    None, 0, "", True, [], {}, [(0, (ONE,))], (0, (ONE,)), (ONE,), ((),), ((0,),), ((0, (ONE,), 1),), ([0, (ONE,)],),
    ((-1, (ONE,)),), ((True, (ONE,)),), ((False, (ONE,)),), (("0", (ONE,)),), ((None, (ONE,)),),
    ((0, (ONE,)), (0, (ONE,))), ((0, (ONE,)), (1, (ONE,)), (1, (TWO,))),
    ((1, (ONE,)), (0, (ONE,))), ((0, (ONE,)), (2, (ONE,)), (1, (ONE,))),
    ((0, ()),), ((0, (ONE,)), (1, ())), ((0, [ONE]),), ((0, None),), ((0, ONE),), ((0, {}),),
    ((0, (TWO, ONE)),), ((0, (SOME, ONE)),), ((0, (ONE,)), (1, (ONE, TWO, ONE))),
    ((0, (1,)),), ((0, (("is", True),)),), ((0, (ONE, None)),), ((0, (("way", (TWO, ONE), ONE),)),),
]

NO_KINDS = [None, 1, "1", (), [], ["is", 1], ("is",), ("is", True), ("is", 1, 1), ("left", 1), ("hole", ONE, ()),
            ("way", (TWO, ONE), ONE), ("way", [ONE], ONE), ("both", left(ONE), ONE), ("name", 0)]

# A program, a place, what isn't around it, and the path of the line that is found wrong.
WRONG = [
    # No hole at the place.
    (whole(1), (), DOT, ()),
    (name(0), (), line(ONE), ()),
    (way(name(0)), (), TILDE, ()),
    (plus(whole(1), whole(2)), (), ("plus", DOT, DOT), ()),
    (plus(whole(1), whole(2)), (0,), ("plus", DOT, DOT), (0,)),
    (plus(whole(1), whole(2)), (1,), ("plus", DOT, DOT), (1,)),
    (way(way(name(0))), (0,), ("way", TILDE), (0,)),
    (give(name(0), whole(1)), (1,), ("give", line(to([ONE, ONE], SOME)), (hole(ONE), DOT)), (2,)),
    (give(name(0), whole(1)), (1,), ("give", line(to([ONE, ONE], SOME)), (DOT, hole(ONE))), (1,)),
    # A hole elsewhere.
    (whole(1), (0,), hole(ONE), ()),
    (whole(1), (-1,), hole(ONE), ()),
    (plus(whole(1), whole(2)), (0,), hole(THREE), ()),
    (plus(whole(1), whole(2)), (), ("plus", hole(ONE), DOT), ()),
    (plus(whole(1), whole(2)), (0,), ("plus", hole(ONE), hole(TWO)), (1,)),
    (plus(whole(1), whole(2)), (0,), ("plus", DOT, hole(TWO)), (0,)),
    (plus(whole(1), whole(2)), (2,), ("plus", DOT, hole(TWO)), (1,)),
    (plus(whole(1), whole(2)), (0, 0), ("plus", hole(ONE), DOT), (0,)),
    (plus(plus(whole(1), whole(2)), whole(3)), (0,), ("plus", ("plus", hole(ONE), DOT), DOT), (0,)),
    (plus(plus(whole(1), whole(2)), whole(3)), (0, 1), ("plus", ("plus", hole(ONE), DOT), DOT), (0, 0)),
    (look(whole(0), whole(1), whole(2)), (2,), ("look", DOT, hole(TWO)), (1,)),
    (look(whole(0), whole(1), whole(2)), (1,), ("look", hole(ONE), DOT), (0,)),
    (pair(whole(1), whole(2)), (1,), ("left", hole(ONE)), (0,)),
    (give(name(0), whole(1)), (0,), ("give", hole(to([ONE], SOME)), (hole(ONE),)), (1,)),
    # No hole, by its form.
    (plus(whole(1), whole(2)), (0,), ("plus", ("hole",), DOT), (0,)),
    (plus(whole(1), whole(2)), (0,), ("plus", ("hole", ONE), DOT), (0,)),
    (plus(whole(1), whole(2)), (0,), ("plus", ("hole", ONE, (), ()), DOT), (0,)),
    (plus(whole(1), whole(2)), (0,), ("plus", ["hole", ONE, ()], DOT), (0,)),
    (plus(whole(1), whole(2)), (0,), ("plus", ("holes", ONE, ()), DOT), (0,)),
    (plus(whole(1), whole(2)), (0,), ("plus", ("name", ONE, ()), DOT), (0,)),
    (plus(whole(1), whole(2)), (0,), ("plus", None, DOT), (0,)),
    (plus(whole(1), whole(2)), (0,), ("plus", (), DOT), (0,)),
    (plus(whole(1), whole(2)), (0,), ("plus", "hole", DOT), (0,)),
    # What is asked of the kinds of holes, in order.
    (plus(whole(1), whole(2)), (0,), ("plus", hole(SOME), DOT), ()),
    (plus(whole(1), whole(2)), (0,), ("plus", hole(SOME), TILDE), (1,)),
    (first(whole(1)), (0,), ("first", hole(right(ONE))), ()),
    (pair(whole(1), whole(2)), (1,), ("both", DOT, hole(left(ONE))), ()),
    (give(name(0), whole(1)), (1,), ("give", line(to([ONE], SOME)), (hole(TWO),)), ()),
    (give(name(0), whole(1)), (1,), ("give", line(to([ONE], SOME)), ()), ()),
    (give(way(whole(1)), whole(1)), (0, 0), ("give", ("way", hole(ONE, (0, (ONE,)))), ()), ()),
    (look(whole(0), whole(1), whole(2)), (0,), ("look", hole(SOME), TILDE), ()),
    (look(whole(0), whole(1), whole(2)), (0,), ("look", hole(ONE), TILDE), (1,)),
    # As of any paper.
    (plus(whole(1), whole(2)), (0,), ("plus", hole(ONE), TILDE), (1,)),
    (plus(whole(1), whole(2)), (0,), ("plus", hole(ONE)), ()),
    (plus(whole(1), whole(2)), (0,), None, ()),
    (plus(whole(1), whole(2)), (7,), TILDE, ()),
]


class AroundLookedTest(unittest.TestCase):
    def refusal_of(self, program, place, around):
        with self.assertRaises(NoPaper) as caught:
            around_looked(program, place, around)
        self.assertIsInstance(caught.exception, BagError)
        self.assertIs(type(caught.exception.at), tuple)
        with self.assertRaises(Wrong) as plain:
            plain_looked(program, around, (), place)
        self.assertEqual(caught.exception.at, plain.exception.args[0])
        return caught.exception.at

    def test_each_form(self):
        for program, place, around, kind, book in AROUND:
            self.assertEqual(around_looked(program, place, around), (kind, book))
            self.assertEqual(plain_looked(program, around, (), place)[:2], (kind, book))
            # What stands at the place isn't looked at.
            if at_place(program, place) is not None:
                for other in (whole(0), name(9), way(name(0)), first(way(whole(1))), pair(whole(1), give(whole(1), whole(2)))):
                    self.assertEqual(around_looked(replaced(program, place, other), place, around), (kind, book))

    def test_wrong_ones(self):
        for program, place, around, at in WRONG:
            self.assertEqual(self.refusal_of(program, place, around), at, around)

    def test_no_books(self):
        program = plus(whole(1), give(name(0), whole(2)))
        for book in NO_BOOKS:
            self.assertEqual(self.refusal_of(whole(1), (), ("hole", ONE, book)), (), book)
            around = ("plus", DOT, ("give", line(to([ONE, ONE], ONE)), (hole(ONE, (0, (ONE,))), ("hole", ONE, book))))
            self.assertEqual(self.refusal_of(program, (1, 1), around), (1, 2), book)

    def test_no_kinds(self):
        for kind in NO_KINDS:
            self.assertEqual(self.refusal_of(whole(1), (), ("hole", kind, ())), (), kind)
            self.assertEqual(self.refusal_of(plus(whole(1), whole(2)), (1,), ("plus", DOT, ("hole", kind, ()))), (1,))

    def test_a_hole_is_no_line_of_a_paper(self):
        for program, place, around, kind, book in AROUND:
            if "hole" in [one[0] for path, one in lines(around)]:
                with self.assertRaises(NoPaper):
                    looked(program, around)

    def test_at_other_places(self):
        # Around is refused just where the plain reading refuses it, at the same line.
        count = 0
        for program in [read(text) for text in ANSWERING[:16]] + drawn_programs(30, 28):
            paper = plain_paper(program)
            if len(lines(paper)) > 60:
                continue
            found = places(program)
            for place in found:
                around = parted(program, paper, place)[0]
                for other in found + [(7,)]:
                    try:
                        wanted = plain_looked(program, around, (), other)[:2]
                    except Wrong:
                        self.refusal_of(program, other, around)
                        count += 1
                    else:
                        self.assertEqual(around_looked(program, other, around), wanted)
        self.assertGreater(count, 500)

    def test_what_is_told_is_the_askers_own(self):
        program, place, around, kind, book = AROUND[1]
        told = around_looked(program, place, around)
        self.assertIs(type(told), tuple)
        self.assertIs(type(told[1]), dict)
        told[1].clear()
        self.assertEqual(around_looked(program, place, around), (kind, book))
        self.assertEqual(around, hole(left(right(TWO)), (0, (ONE, ONE)), (7, (SOME,))))
        papers = [DOT]
        told = joined(hole(ONE), papers)
        papers.append(TILDE)
        self.assertEqual(told, DOT)
        self.assertEqual(joined(hole(ONE), [DOT]), DOT)


if __name__ == "__main__":
    unittest.main()
