import unittest

from kindbags.backward import backward
from kindbags.checker import looked, stands
from kindbags.errors import BagError, NoRule
from kindbags.kinds import answer_kind
from kindbags.names import open_names
from kindbags.papers import lines, marks
from kindbags.papertexts import in_order, read_paper, show_paper
from kindbags.places import at_place
from kindbags.reader import read
from kindbags.rules import behind
from kindbags.running import run

from plain import (answers_paper, drawn_programs, plain_backward, plain_in_order, plain_looked, plain_paper,
                   plain_rule_places, plain_run)
from samples import ANSWERING, NO_RULES, RULED, first, give, name, num, pair, plus, same, small_programs, to, way, whole

DOT, TILDE = ("whole",), ("some",)
ONE, TWO, THREE = num(1), num(2), num(3)


class BackwardTest(unittest.TestCase):
    def hold(self, program, place, paper):
        """What is told of backward holds; the paper that it tells."""
        later = behind(program, place)
        told = backward(program, place, paper)
        self.assertEqual(looked(program, told), looked(later, paper))
        self.assertEqual(plain_looked(program, told)[:2], looked(later, paper))
        self.assertEqual(told, plain_in_order(told))
        self.assertEqual(marks(told), marks(paper) + stands(later, paper).count(place))
        self.assertEqual(stands(program, told).count(place), stands(later, paper).count(place))
        self.assertEqual(told, plain_backward(program, place, later, paper))
        return told

    def test_each_rule(self):
        for program, place, paper, ahead in RULED:
            self.assertEqual(show_paper(backward(program, place, read_paper(paper))), ahead, program)
            self.hold(program, place, read_paper(paper))

    def test_along_runs(self):
        for text in ANSWERING:
            programs, ruled = plain_run(read(text))
            paper = answers_paper(programs[-1])
            for k in range(len(ruled) - 1, -1, -1):
                paper = self.hold(programs[k], ruled[k], paper)
                self.assertEqual(marks(paper), len(ruled) - k)
            self.assertEqual(looked(programs[0], paper), (answer_kind(programs[-1]), {}))

    def test_at_any_place_where_a_rule_can_go(self):
        # There is no other paper, so each way back comes to the same.
        count = 0
        for text in ANSWERING:
            for program in plain_run(read(text))[0][:12]:
                count += self.at_each_place(program)
        self.assertGreater(count, 100)

    def test_small_ones(self):
        count = 0
        for program in small_programs(2, [name(0), whole(0)]):
            if not open_names(program) and run(program, 30)[0] == "answer":
                count += self.at_each_place(program)
        self.assertGreater(count, 50)

    def test_drawn_ones(self):
        self.assertGreater(sum([self.at_each_place(program) for program in drawn_programs(300, 7)]), 600)

    def at_each_place(self, program):
        wanted = plain_paper(program)
        count = 0
        for place in plain_rule_places(program):
            later = behind(program, place)
            if run(later, 400)[0] == "answer":
                self.assertEqual(self.hold(program, place, plain_paper(later)), wanted)
                count += 1
        return count

    def test_parts_with_open_names(self):
        for text in ANSWERING:
            program = read(text)
            for place in plain_rule_places(program):
                later = behind(program, place)
                if run(later, 400)[0] != "answer":
                    continue
                paper = plain_paper(later)
                stood = stands(later, paper)
                for k in range(len(place)):
                    parts = [line for (path, line), at in zip(lines(paper), stood) if at == place[:k]]
                    for part in parts:
                        self.hold(at_place(program, place[:k]), place[k:], part)

    def test_no_rule(self):
        for program, place in NO_RULES:
            # Whatever the paper.
            for paper in (DOT, TILDE, ("plus", DOT, DOT), ("name", ONE), ("both", DOT, DOT), ("first", TILDE)):
                with self.assertRaises(NoRule):
                    backward(program, place, paper)
        with self.assertRaises(BagError):
            backward(whole(1), (), DOT)

    def test_what_is_handed_in_stays(self):
        program = give(name(0), give(way(name(0)), name(1)))
        paper = ("give", ("name", to([ONE, TWO], THREE)), (("name", TWO), ("name", ONE)))
        for _ in range(2):
            told = backward(program, (1,), paper)
            self.assertEqual(show_paper(told), "(give #[1 2:3] (give (way #1) #1) (give (way #2) #2))")
            self.assertEqual(paper, ("give", ("name", ("way", (("is", 1), ("is", 2)), ("is", 3))),
                                     (("name", ("is", 2)), ("name", ("is", 1)))))
            self.assertEqual(program, ("give", ("name", 0), ("give", ("way", ("name", 0)), ("name", 1))))
            self.assertIs(type(told), tuple)

    def test_what_was_told_whatever_its_size(self):
        later, paper = whole(3), DOT
        program, ahead = plus(whole(1), whole(2)), ("plus", DOT, DOT)
        for _ in range(1500):
            later, paper = first(pair(later, whole(0))), ("first", ("left", paper))
            program, ahead = first(pair(program, whole(0))), ("first", ("left", ahead))
        self.assertTrue(same(backward(program, (0, 0) * 1500, paper), ahead))
        self.assertTrue(same(backward(first(pair(later, whole(0))), (), in_order(paper)), ("first", ("left", paper))))
        told = backward(give(way(plus(name(0), name(0))), later), (), ("plus", paper, paper))
        self.assertTrue(same(told, ("give", read_paper("(way (plus #3 #3))"), (paper, paper))))
        ways, deep, kind = name(1501), ("name", ONE), ONE
        for _ in range(1500):
            ways, deep, kind = way(ways), ("way", deep), to([], kind)
        told = backward(give(way(name(0)), ways), (), deep)
        self.assertTrue(same(told, ("give", ("way", ("name", kind)), (deep,))))
        told = backward(give(way(ways), whole(9)), (), deep)
        self.assertTrue(same(told, ("give", ("way", deep), ())))


if __name__ == "__main__":
    unittest.main()
