import unittest

from kindbags.checker import looked, stands
from kindbags.joined import around_looked, around_marks, joined
from kindbags.papers import lines, marks
from kindbags.papertexts import read_paper
from kindbags.parted import parted
from kindbags.places import at_place, places, replaced
from kindbags.reader import read

from plain import drawn_programs, plain_inners, plain_looked, plain_paper, plain_parted
from samples import ANSWERING, chain, first, give, look, name, num, pair, plus, same, second, to, way, whole

DOT, TILDE = ("whole",), ("some",)
ONE, TWO, THREE = num(1), num(2), num(3)


def hole(kind, *book):
    return ("hole", kind, tuple(book))


# A program, the text of a paper, a place, what is around, and the texts of the papers.
PARTED = [
    # The place ().
    (whole(1), ".", (), hole(ONE), ["."]),
    (plus(whole(1), whole(2)), "(plus . .)", (), hole(THREE), ["(plus . .)"]),
    (name(0), "#1", (), hole(ONE, (0, (ONE,))), ["#1"]),
    (plus(name(3), plus(name(0), name(3))), "(plus #2 (plus #3 #1))", (),
     hole(num(6), (0, (THREE,)), (3, (ONE, TWO))), ["(plus #2 (plus #3 #1))"]),
    # One line.
    (plus(whole(1), whole(2)), "(plus . .)", (1,), ("plus", DOT, hole(TWO)), ["."]),
    (plus(plus(whole(1), whole(2)), whole(3)), "(plus (plus . .) .)", (0,), ("plus", hole(THREE), DOT), ["(plus . .)"]),
    (way(name(0)), "(way #1)", (0,), ("way", hole(ONE, (0, (ONE,)))), ["#1"]),
    (way(way(plus(name(0), name(1)))), "(way (way (plus #1 #2)))", (0, 0),
     ("way", ("way", hole(THREE, (0, (ONE,)), (1, (TWO,))))), ["(plus #1 #2)"]),
    (way(way(plus(name(0), name(1)))), "(way (way (plus #1 #2)))", (0,),
     ("way", hole(to([ONE], THREE), (0, (TWO,)))), ["(way (plus #1 #2))"]),
    (first(pair(whole(1), whole(2))), "(first (left .))", (0,), ("first", hole(("left", ONE))), ["(left .)"]),
    (second(pair(whole(1), whole(2))), "(second (right .))", (0, 1), ("second", ("right", hole(TWO))), ["."]),
    (look(whole(0), whole(1), whole(2)), "(look . .)", (0,), ("look", hole(num(0)), DOT), ["."]),
    (look(whole(0), whole(1), whole(2)), "(look . .)", (1,), ("look", DOT, hole(ONE)), ["."]),
    (look(whole(7), whole(1), whole(2)), "(look . .)", (2,), ("look", DOT, hole(TWO)), ["."]),
    (give(way(name(0)), whole(3)), "(give (way #3) .)", (0,), ("give", hole(to([THREE], THREE)), (DOT,)), ["(way #3)"]),
    (give(way(name(0)), whole(3)), "(give (way #3) .)", (1,), ("give", ("way", ("name", THREE)), (hole(THREE),)), ["."]),
    (give(way(name(0)), way(name(0))), "(give (way #~) ~)", (1,), ("give", ("way", ("name", ("some",))),
                                                                    (hole(("some",)),)), ["~"]),
    # Several lines, also unlike ones, in the order in which they stand.
    (give(way(plus(name(0), name(0))), whole(3)), "(give (way (plus #3 #3)) . .)", (1,),
     ("give", ("way", ("plus", ("name", THREE), ("name", THREE))), (hole(THREE), hole(THREE))), [".", "."]),
    (give(name(0), plus(name(1), name(0))), "(give #[3 4:1] (plus #3 #1) (plus #2 #1))", (1,),
     ("give", ("name", to([THREE, num(4)], ONE)), (hole(num(4), (0, (ONE,)), (1, (THREE,))),
                                                    hole(THREE, (0, (ONE,)), (1, (TWO,))))),
     ["(plus #3 #1)", "(plus #2 #1)"]),
    (give(name(0), plus(name(1), name(0))), "(give #[3 4:1] (plus #3 #1) (plus #2 #1))", (1, 1),
     ("give", ("name", to([THREE, num(4)], ONE)), (("plus", ("name", THREE), hole(ONE, (0, (ONE,)))),
                                                    ("plus", ("name", TWO), hole(ONE, (0, (ONE,)))))), ["#1", "#1"]),
    # No line, or no such place.
    (pair(whole(1), whole(2)), "(left .)", (1,), ("left", DOT), []),
    (way(whole(1)), "~", (0,), TILDE, []),
    (give(way(whole(1)), whole(2)), "(give (way .))", (1,), ("give", ("way", DOT), ()), []),
    (look(whole(0), whole(1), whole(2)), "(look . .)", (2,), ("look", DOT, DOT), []),
    (whole(1), ".", (0,), DOT, []),
    (whole(1), ".", (-1,), DOT, []),
    (plus(whole(1), whole(2)), "(plus . .)", (2,), ("plus", DOT, DOT), []),
    (plus(whole(1), whole(2)), "(plus . .)", (-1,), ("plus", DOT, DOT), []),
    (plus(whole(1), whole(2)), "(plus . .)", (1, 0), ("plus", DOT, DOT), []),
    (plus(whole(1), whole(2)), "(plus . .)", (4, 4), ("plus", DOT, DOT), []),
]


class PartedTest(unittest.TestCase):
    def hold(self, program, paper, place):
        around, papers = told = parted(program, paper, place)
        self.assertIs(type(told), tuple)
        self.assertIs(type(papers), list)
        self.assertEqual(told, plain_parted(program, paper, place))
        self.assertEqual(len(papers), stands(program, paper).count(place))
        if not papers:
            self.assertEqual(around, paper)
        # Joined again it is the paper, and around is looked at without what stands there.
        self.assertEqual(joined(around, papers), paper)
        self.assertEqual(around_looked(program, place, around), looked(program, paper))
        self.assertEqual(around_marks(around) + sum([marks(one) for one in papers]), marks(paper))
        return papers

    def test_by_hand(self):
        for program, text, place, around, papers in PARTED:
            paper = read_paper(text)
            self.assertEqual(parted(program, paper, place), (around, [read_paper(one) for one in papers]), text)
            self.hold(program, paper, place)

    def test_each_place_of_papers_of_runs(self):
        counts = {}
        for program in [read(text) for text in ANSWERING] + drawn_programs(80, 27):
            paper = plain_paper(program)
            if len(lines(paper)) > 200:
                continue
            for place in places(program) + [(9,), (0, 0, 0, 0, 0, 0, 0, 0, 0, 0, 0, 0)]:
                papers = self.hold(program, paper, place)
                self.joined_with_others(program, place, paper)
                counts[min(len(papers), 3)] = counts.get(min(len(papers), 3), 0) + 1
        self.assertTrue(all(counts[many] > 20 for many in range(4)), counts)

    def joined_with_others(self, program, place, paper):
        """Put together with papers of another part, of the same kinds and books, it is a paper of the whole."""
        around, papers = parted(program, paper, place)
        part = at_place(program, place)
        if part is None:
            return
        for other, put in ((first(pair(part, whole(9))), lambda one: ("first", ("left", one))),
                           (look(whole(0), part, whole(9)), lambda one: ("look", DOT, one)),
                           (give(way(name(0)), part), lambda one: ("give", ("way", ("name", looked(part, one)[0])), (one,)))):
            whole_one = replaced(program, place, other)
            others = [put(one) for one in papers]
            self.assertEqual([looked(other, one) for one in others], [looked(part, one) for one in papers])
            told = joined(around, others)
            self.assertEqual(looked(whole_one, told), looked(program, paper))
            self.assertEqual(plain_looked(whole_one, told)[:2], looked(program, paper))
            self.assertEqual(around_looked(whole_one, place, around), looked(program, paper))
            self.assertEqual(marks(told), around_marks(around) + sum([marks(one) for one in others]))
            self.assertEqual(marks(told), marks(paper) + len(papers))

    def test_the_list_is_the_askers_own(self):
        program = read("(give (way x (plus x x)) 3)")
        paper = read_paper("(give (way (plus #3 #3)) . .)")
        before = parted(program, paper, (1,))
        told = parted(program, paper, (1,))
        told[1].clear()
        self.assertEqual(parted(program, paper, (1,)), before)
        parted(program, paper, (0,))[1][0] = None
        self.assertEqual(parted(program, paper, (1,)), before)
        none = parted(program, paper, (5,))[1]
        none.append(DOT)
        self.assertEqual(parted(program, paper, (5,)), (paper, []))
        self.assertEqual(program, read("(give (way x (plus x x)) 3)"))
        self.assertEqual(paper, read_paper("(give (way (plus #3 #3)) . .)"))

    def test_what_was_told_whatever_its_size(self):
        program, paper = name(0), ("name", ONE)
        for _ in range(1500):
            program, paper = first(pair(program, whole(0))), ("first", ("left", paper))
        around, papers = parted(program, paper, (0, 0) * 1500)
        self.assertEqual(papers, [("name", ONE)])
        one = around
        for _ in range(1500):
            one = plain_inners(plain_inners(one)[0])[0]
        self.assertEqual(one, hole(ONE, (0, (ONE,))))
        self.assertEqual(around_looked(program, (0, 0) * 1500, around), (ONE, {0: (ONE,)}))
        self.assertEqual(around_marks(around), 1500)
        self.assertTrue(same(joined(around, papers), paper))
        self.assertTrue(same(joined(("hole", ONE, ()), [paper]), paper))
        ways, deep = chain(["way"] * 1500, name(1500)), ("name", ONE)
        for _ in range(1500):
            deep = ("way", deep)
        around, papers = parted(pair(ways, whole(1)), ("left", deep), (0,))
        self.assertEqual(around[1][2], ((0, (ONE,)),))
        self.assertTrue(same(papers[0], deep))
        kind, book = around_looked(pair(ways, whole(1)), (0,), around)
        self.assertTrue(same(kind, ("left", looked(ways, deep)[0])))
        self.assertEqual(book, {0: (ONE,)})


if __name__ == "__main__":
    unittest.main()
