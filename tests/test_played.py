import random
import unittest

from kindbags.checker import looked
from kindbags.errors import NoRoom
from kindbags.kinds import answer_kind
from kindbags.papers import marks
from kindbags.papertexts import read_paper, show_paper
from kindbags.played import played
from kindbags.reader import read
from kindbags.writer import shown
from kindbags.written import paper_of

from plain import answers_paper, drawn_programs, plain_in_order, plain_paper, plain_run, shuffled
from samples import ANSWERING, first, give, name, pair, plus, same, way, whole


class PlayedTest(unittest.TestCase):
    def hold(self, program, paper):
        told = played(program, paper)
        programs = plain_run(program)[0]
        self.assertIs(type(told), list)
        self.assertTrue(all(type(one) is tuple and len(one) == 2 for one in told))
        self.assertEqual([one for one, other in told], programs)
        self.assertEqual(told[0], (program, plain_in_order(paper)))
        # Each rule takes just one mark away.
        self.assertEqual([marks(other) for one, other in told], list(range(len(told) - 1, -1, -1)))
        kind = answer_kind(programs[-1])
        for now, other in told:
            self.assertEqual(looked(now, other), (kind, {}))
            self.assertEqual(other, plain_in_order(other))
        self.assertEqual(told[-1][1], answers_paper(programs[-1]))
        return told

    def test_by_hand(self):
        program = read("(give (way x (plus x x)) (plus 1 2))")
        told = played(program, read_paper("(give (way (plus #3 #3)) (plus . .) (plus . .))"))
        self.assertEqual([(shown(one), show_paper(paper)) for one, paper in told], [
            ("(give (way a (plus a a)) (plus 1 2))", "(give (way (plus #3 #3)) (plus . .) (plus . .))"),
            ("(plus (plus 1 2) (plus 1 2))", "(plus (plus . .) (plus . .))"),
            ("(plus 3 (plus 1 2))", "(plus . (plus . .))"),
            ("(plus 3 3)", "(plus . .)"),
            ("6", ".")])

    def test_an_answer(self):
        for program in (whole(1), way(first(whole(1))), pair(whole(1), pair(way(name(0)), whole(2)))):
            self.assertEqual(played(program, answers_paper(program)), [(program, answers_paper(program))])

    def test_papers_of_runs(self):
        draw = random.Random(5)
        for text in ANSWERING:
            program = read(text)
            told = self.hold(program, plain_paper(program))
            self.assertEqual(self.hold(program, shuffled(plain_paper(program), draw)), told)

    def test_drawn_ones(self):
        draw = random.Random(6)
        for program in drawn_programs(150, 26):
            try:
                paper = paper_of(program, 400)
            except NoRoom:
                continue
            told = self.hold(program, shuffled(paper, draw))
            # The paper of each program to which the run comes is the one that is written for it.
            for now, other in told:
                self.assertEqual(paper_of(now, 400), other)

    def test_put_in_order_at_first(self):
        program = read("(give (way p (plus (second p) (first p))) (pair 1 2))")
        paper = read_paper("(give (way (plus (second #(,2)) (first #(1,)))) (right .) (left .))")
        told = self.hold(program, paper)
        self.assertEqual(show_paper(told[0][1]), "(give (way (plus (second #(,2)) (first #(1,)))) (left .) (right .))")
        self.assertEqual(show_paper(paper), "(give (way (plus (second #(,2)) (first #(1,)))) (right .) (left .))")

    def test_the_list_is_the_askers_own(self):
        program = read("(plus (plus 1 2) 3)")
        paper = read_paper("(plus (plus . .) .)")
        before = list(played(program, paper))
        told = played(program, paper)
        told.clear()
        self.assertEqual(played(program, paper), before)
        played(program, paper)[0] = None
        self.assertEqual(played(program, paper), before)
        self.assertEqual((program, paper), (plus(plus(whole(1), whole(2)), whole(3)), read_paper("(plus (plus . .) .)")))

    def test_what_was_told_whatever_its_size(self):
        program, paper = whole(3), ("whole",)
        for _ in range(60):
            program, paper = first(pair(give(way(name(0)), program), whole(0))), (
                "first", ("left", ("give", ("way", ("name", ("is", 3))), (paper,))))
        told = played(program, paper)
        self.assertEqual(len(told), 121)
        self.assertEqual(told[-1], (whole(3), ("whole",)))
        deep = paper
        ways = program
        for _ in range(700):
            ways, deep = pair(whole(0), ways), ("both", ("whole",), deep)
        told = played(ways, deep)
        self.assertEqual(len(told), 121)
        self.assertTrue(same(told[0][1], deep))
        self.assertEqual(marks(told[1][1]), 119)


if __name__ == "__main__":
    unittest.main()
