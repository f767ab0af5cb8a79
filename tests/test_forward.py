import random
import unittest

from kindbags.backward import backward
from kindbags.checker import looked, stands
from kindbags.errors import BagError, NoRule
from kindbags.forward import forward
from kindbags.kinds import answer_kind
from kindbags.names import open_names
from kindbags.papers import lines, marks
from kindbags.papertexts import in_order, read_paper, show_paper
from kindbags.places import at_place
from kindbags.reader import read
from kindbags.rules import behind
from kindbags.running import run

from plain import drawn_programs, plain_forward, plain_in_order, plain_looked, plain_paper, plain_rule_places, shuffled
from samples import (ANSWERING, NO_RULES, RULED, first, give, look, name, num, pair, plus, same, small_programs, to, way,
                     whole)

DOT, TILDE = ("whole",), ("some",)
ONE, TWO, THREE = num(1), num(2), num(3)

# A program, the place of a rule, a paper of the program, and the paper of the program behind the rule.
FORWARD = [
    # The papers of what is given stand in another order than sorted: each name takes the first of its kind.
    (give(way(plus(name(0), look(name(0), whole(1), whole(2)))), name(4)), (),
     "(give (way (plus #3 (look #5 .))) #5 #3)", "(plus #3 (look #5 .))"),
    (give(way(plus(name(0), look(name(0), whole(1), whole(2)))), name(4)), (),
     "(give (way (plus #3 (look #5 .))) #3 #5)", "(plus #3 (look #5 .))"),
    (give(way(plus(name(0), plus(name(0), name(0)))), plus(name(0), name(1))), (),
     "(give (way (plus #3 (plus #4 #3))) (plus #3 #1) (plus #2 #1) (plus #1 #2))",
     "(plus (plus #2 #1) (plus (plus #3 #1) (plus #1 #2)))"),
    # Two papers of one kind: the first one goes to the first name.
    (give(way(plus(name(0), name(0))), plus(name(0), name(1))), (),
     "(give (way (plus #3 #3)) (plus #1 #2) (plus #2 #1))", "(plus (plus #1 #2) (plus #2 #1))"),
    (give(way(plus(name(0), name(0))), plus(name(0), name(1))), (),
     "(give (way (plus #3 #3)) (plus #2 #1) (plus #1 #2))", "(plus (plus #2 #1) (plus #1 #2))"),
    (give(way(pair(name(0), pair(name(0), name(0)))), plus(name(0), name(1))), (),
     "(give (way (both #3 (both #4 #3))) (plus #2 #1) (plus #2 #2) (plus #1 #2))",
     "(both (plus #2 #1) (both (plus #2 #2) (plus #1 #2)))"),
    # Names are taken as they stand in the paper, not as they would stand put in order.
    (give(way(give(name(3), plus(name(0), name(1)))), plus(name(0), name(1))), (),
     "(give (way (give #[7 8:1] (plus #3 #5) (plus #3 #4))) (plus #1 #2) (plus #2 #1))",
     "(give #[7 8:1] (plus (plus #1 #2) #5) (plus (plus #2 #1) #4))"),
    (give(way(give(name(3), plus(name(0), name(1)))), plus(name(0), name(1))), (),
     "(give (way (give #[7 8:1] (plus #3 #4) (plus #3 #5))) (plus #1 #2) (plus #2 #1))",
     "(give #[7 8:1] (plus (plus #1 #2) #4) (plus (plus #2 #1) #5))"),
    (give(way(give(name(3), plus(name(0), name(1)))), plus(name(0), name(1))), (),
     "(give (way (give #[7 8:1] (plus #3 #4) (plus #3 #5))) (plus #2 #1) (plus #1 #2))",
     "(give #[7 8:1] (plus (plus #1 #2) #5) (plus (plus #2 #1) #4))"),
    # Other names of the same kind stay, be they of a way within or around.
    (give(way(plus(name(0), name(1))), whole(3)), (), "(give (way (plus #3 #3)) .)", "(plus . #3)"),
    (give(way(give(way(plus(name(0), plus(name(1), name(2)))), whole(3))), whole(3)), (),
     "(give (way (give (way (plus #3 (plus #3 #3))) .)) .)", "(give (way (plus #3 (plus . #3))) .)"),
    (give(way(way(pair(name(0), name(1)))), name(0)), (), "(give (way (way (both #3 #3))) #3)", "(way (both #3 #3))"),
    # Several lines at the place, each with its own papers.
    (give(name(0), give(way(plus(name(0), name(0))), plus(name(0), name(1)))), (1,),
     "(give #[6 6:1] (give (way (plus #3 #3)) (plus #2 #1) (plus #1 #2)) (give (way (plus #2 #4)) (plus #1 #3)"
     " (plus #1 #1)))",
     "(give #[6 6:1] (plus (plus #1 #1) (plus #1 #3)) (plus (plus #2 #1) (plus #1 #2)))"),
    # Elsewhere too it is put in order.
    (pair(first(pair(name(0), name(1))), give(name(2), name(3))), (0,),
     "(both (first (left #1)) (give #[1 2 2:3] #2 #1 #2))", "(both #1 (give #[1 2 2:3] #1 #2 #2))"),
    (pair(first(pair(name(0), name(1))), give(name(2), name(3))), (0,),
     "(right (give #[1 2 2:3] #2 #1 #2))", "(right (give #[1 2 2:3] #1 #2 #2))"),
]


class ForwardTest(unittest.TestCase):
    def hold(self, program, place, paper):
        """What is told of forward holds; the paper that it tells."""
        later = behind(program, place)
        told = forward(program, place, paper)
        self.assertEqual(looked(later, told), looked(program, paper))
        self.assertEqual(plain_looked(later, told)[:2], looked(program, paper))
        self.assertEqual(told, plain_in_order(told))
        self.assertEqual(marks(told), marks(paper) - stands(program, paper).count(place))
        self.assertEqual(told, plain_forward(program, place, paper))
        self.assertEqual(backward(program, place, told), plain_in_order(paper))
        return told

    def test_each_rule(self):
        for program, place, later, paper in RULED:
            self.assertEqual(forward(program, place, read_paper(paper)), plain_in_order(read_paper(later)), paper)
            self.hold(program, place, read_paper(paper))

    def test_which_paper_comes_where(self):
        for program, place, paper, later in FORWARD:
            self.assertEqual(show_paper(forward(program, place, read_paper(paper))), later, paper)
            self.hold(program, place, read_paper(paper))

    def at_each_place(self, program, draw):
        """At each place where a rule can go, forward tells the one paper of what comes."""
        paper = plain_paper(program)
        kind = answer_kind(run(program, 400)[1])
        found = plain_rule_places(program)
        for place in found:
            told = self.hold(program, place, paper)
            self.assertEqual(looked(behind(program, place), told), (kind, {}))
            if run(behind(program, place), 400)[0] == "answer":
                self.assertEqual(told, plain_paper(behind(program, place)))
            self.assertEqual(self.hold(program, place, shuffled(paper, draw)), told)
        return len(found)

    def test_papers_of_runs(self):
        draw = random.Random(1)
        self.assertGreater(sum([self.at_each_place(read(text), draw) for text in ANSWERING]), 25)

    def test_drawn_ones(self):
        draw = random.Random(2)
        self.assertGreater(sum([self.at_each_place(program, draw) for program in drawn_programs(200, 24)]), 500)

    def test_small_ones(self):
        draw = random.Random(3)
        count = 0
        for program in small_programs(2, [name(0), whole(0)]):
            if not open_names(program) and run(program, 30)[0] == "answer":
                count += self.at_each_place(program, draw)
        self.assertGreater(count, 50)

    def test_parts_with_open_names(self):
        draw = random.Random(4)
        count = 0
        for program in [read(text) for text in ANSWERING] + drawn_programs(60, 25):
            paper = shuffled(plain_paper(program), draw)
            for place in plain_rule_places(program):
                for k in range(len(place)):
                    part = at_place(program, place[:k])
                    for (path, line), at in zip(lines(paper), stands(program, paper)):
                        if at == place[:k] and open_names(part):
                            self.hold(part, place[k:], line)
                            count += 1
        self.assertGreater(count, 50)

    def test_no_rule(self):
        for program, place in NO_RULES:
            # Whatever the paper.
            for paper in (DOT, TILDE, ("plus", DOT, DOT), ("name", ONE), ("both", DOT, DOT), ("first", TILDE)):
                with self.assertRaises(NoRule):
                    forward(program, place, paper)
        with self.assertRaises(BagError):
            forward(whole(1), (), DOT)

    def test_what_is_handed_in_stays(self):
        program = give(name(0), give(way(name(0)), name(1)))
        paper = read_paper("(give #[1 2:3] (give (way #2) #2) (give (way #1) #1))")
        for _ in range(2):
            told = forward(program, (1,), paper)
            self.assertEqual(show_paper(told), "(give #[1 2:3] #1 #2)")
            self.assertIs(type(told), tuple)
            self.assertEqual(show_paper(paper), "(give #[1 2:3] (give (way #2) #2) (give (way #1) #1))")
            self.assertEqual(program, ("give", ("name", 0), ("give", ("way", ("name", 0)), ("name", 1))))

    def test_what_was_told_whatever_its_size(self):
        later, paper = whole(3), DOT
        program, ahead = plus(whole(1), whole(2)), ("plus", DOT, DOT)
        for _ in range(1500):
            later, paper = first(pair(later, whole(0))), ("first", ("left", paper))
            program, ahead = first(pair(program, whole(0))), ("first", ("left", ahead))
        self.assertTrue(same(forward(program, (0, 0) * 1500, ahead), paper))
        self.assertTrue(same(forward(first(pair(later, whole(0))), (), ("first", ("left", paper))), paper))
        ahead = ("give", read_paper("(way (plus #3 #3))"), (paper, paper))
        self.assertTrue(same(forward(give(way(plus(name(0), name(0))), later), (), ahead), ("plus", paper, paper)))
        ways, deep, kind = name(1501), ("name", ONE), ONE
        for _ in range(1500):
            ways, deep, kind = way(ways), ("way", deep), to([], kind)
        ahead = ("give", ("way", ("name", kind)), (deep,))
        self.assertTrue(same(forward(give(way(name(0)), ways), (), ahead), deep))
        twice = ("give", ("way", ("left", ("name", kind))), (deep,))
        self.assertTrue(same(forward(give(way(pair(name(0), name(0))), ways), (), twice), ("left", deep)))
        self.assertTrue(same(in_order(twice), twice))


if __name__ == "__main__":
    unittest.main()
