import unittest

from kindbags.papers import lines, marks
from kindbags.papertexts import in_order
from kindbags.reader import read

from plain import plain_lines, plain_paper
from samples import ANSWERING, SOME, left, num, to

DOT, TILDE = ("whole",), ("some",)
NAME = ("name", left(num(1)))

PAPERS = [
    (DOT, [()], 0),
    (TILDE, [()], 0),
    (NAME, [()], 0),
    (("name", to([num(1)], SOME)), [()], 0),
    (("way", DOT), [(), (0,)], 0),
    (("left", TILDE), [(), (0,)], 0),
    (("right", NAME), [(), (0,)], 0),
    (("both", DOT, TILDE), [(), (0,), (1,)], 0),
    (("first", ("left", DOT)), [(), (0,), (0, 0)], 1),
    (("second", ("right", DOT)), [(), (0,), (0, 0)], 1),
    (("plus", DOT, ("plus", DOT, NAME)), [(), (0,), (1,), (1, 0), (1, 1)], 2),
    (("look", DOT, ("first", NAME)), [(), (0,), (1,), (1, 0)], 2),
    (("give", ("way", DOT), ()), [(), (0,), (0, 0)], 1),
    (("give", ("way", DOT), (NAME,)), [(), (0,), (0, 0), (1,)], 1),
    (("give", ("way", DOT), (DOT, ("left", DOT), TILDE)), [(), (0,), (0, 0), (1,), (2,), (2, 0), (3,)], 1),
    (("give", NAME, (("give", NAME, (NAME, DOT)), ("give", DOT, ()))),
     [(), (0,), (1,), (1, 0), (1, 1), (1, 2), (2,), (2, 0)], 3),
]


def at_path(paper, path):
    for k in path:
        inners = (paper[1],) + paper[2] if paper[0] == "give" else paper[1:]
        paper = inners[k]
    return paper


class PapersTest(unittest.TestCase):
    def test_each_form(self):
        for paper, paths, many in PAPERS:
            self.assertEqual(lines(paper), [(path, at_path(paper, path)) for path in paths])
            self.assertEqual(marks(paper), many)

    def test_papers_of_runs(self):
        for text in ANSWERING:
            paper = plain_paper(read(text))
            told = lines(paper)
            self.assertEqual(told, plain_lines(paper))
            words = [line[0] for path, line in told]
            self.assertEqual(marks(paper), sum(word in ("give", "first", "second", "plus", "look") for word in words))

    def test_kinds(self):
        told = lines(PAPERS[-1][0])
        self.assertIs(type(told), list)
        for entry in told:
            self.assertIs(type(entry), tuple)
            self.assertIs(type(entry[0]), tuple)

    def test_the_list_is_the_askers_own(self):
        paper = PAPERS[-1][0]
        before = list(lines(paper))
        told = lines(paper)
        told.clear()
        self.assertEqual(lines(paper), before)
        again = lines(paper)
        again[0] = ((9,), DOT)
        self.assertEqual(lines(paper), before)

    def test_what_was_told_whatever_its_size(self):
        paper = DOT
        for _ in range(1000):
            paper = ("give", ("way", ("first", ("left", paper))), (DOT, DOT))
        told = lines(in_order(paper))
        self.assertEqual(marks(paper), 2000)
        self.assertEqual(len(told), 6001)
        self.assertEqual(told[4000], ((0,) * 4000, DOT))
        self.assertEqual(told[4001:4003], [((0,) * 3996 + (1,), DOT), ((0,) * 3996 + (2,), DOT)])


if __name__ == "__main__":
    unittest.main()
