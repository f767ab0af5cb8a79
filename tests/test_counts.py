import random
import unittest

from kindbags.counts import look_ups_of, slips_of, steps_of
from kindbags.errors import NoRoom
from kindbags.machine import Machine
from kindbags.names import open_names
from kindbags.papers import marks
from kindbags.papertexts import read_paper
from kindbags.reader import read
from kindbags.running import run
from kindbags.written import paper_of

from plain import drawn_programs, shuffled
from samples import ANSWERING, many_lines, name, small_programs, whole

# A program's text, that of its paper, and steps, slips, look-ups and rules.
COUNTED = [
    ("7", ".", (0, 0, 0, 0)),
    ("(way x x)", "~", (0, 0, 0, 0)),
    ("(pair 1 2)", "(both . .)", (3, 0, 0, 0)),
    ("(pair 1 (pair 2 3))", "(both . (both . .))", (6, 0, 0, 0)),
    ("(plus 1 2)", "(plus . .)", (3, 0, 0, 1)),
    ("(plus (plus 1 2) 3)", "(plus (plus . .) .)", (6, 0, 0, 2)),
    ("(first (pair 1 2))", "(first (left .))", (2, 0, 0, 1)),
    ("(second (pair 1 2))", "(second (right .))", (2, 0, 0, 1)),
    ("(look 0 1 2)", "(look . .)", (2, 0, 0, 1)),
    ("(give (way x 1) 2)", "(give (way .))", (2, 1, 0, 1)),
    ("(give (way x x) 2)", "(give (way #2) .)", (3, 1, 1, 1)),
    ("(give (way x (plus x x)) (plus 1 2))", "(give (way (plus #3 #3)) (plus . .) (plus . .))", (13, 1, 2, 4)),
    ("(give (way f (give f f)) (way x 5))", "(give (way (give #[:5])) (way .))", (5, 2, 1, 2)),
]


class CountsTest(unittest.TestCase):
    def counted(self, paper):
        return (steps_of(paper), slips_of(paper), look_ups_of(paper), marks(paper))

    def by_machine(self, program):
        machine = Machine(program)
        while machine.step():
            pass
        self.assertEqual(machine.word(), "answer")
        return (machine.steps(), machine.slips(), machine.look_ups(), machine.rules())

    def test_by_hand(self):
        for text, paper, wanted in COUNTED:
            self.assertEqual(paper_of(read(text), 400), read_paper(paper))
            self.assertEqual(self.counted(read_paper(paper)), wanted, text)
            self.assertEqual(self.by_machine(read(text)), wanted, text)

    def test_beside_the_machine(self):
        draw = random.Random(51)
        small = [one for one in small_programs(2, [name(0), whole(0)])[:3000] if not open_names(one)]
        small = [one for one in small if run(one, 30)[0] == "answer"]
        self.assertGreater(len(small), 50)
        for program in [read(text) for text in ANSWERING] + drawn_programs(300, 52) + small + [many_lines([3, 5, 3, 5], 5)]:
            try:
                paper = paper_of(program, 400)
            except NoRoom:
                continue
            self.assertEqual(self.counted(paper), self.by_machine(program))
            # The order of a give's papers is nothing to them.
            self.assertEqual(self.counted(shuffled(paper, draw)), self.by_machine(program))

    def test_what_was_told_whatever_its_size(self):
        paper = ("whole",)
        for _ in range(1500):
            paper = ("give", ("way", ("plus", ("name", ("is", 1)), ("both", paper, ("whole",)))), (("whole",),))
        self.assertEqual(self.counted(paper), (7 * 1500 + 2 * 1500, 1500, 1500, 3000))


if __name__ == "__main__":
    unittest.main()
