import unittest

from kindbags.checker import looked, looked_through
from kindbags.errors import BagError, NoRoom
from kindbags.kinds import answer_kind, inner_kinds
from kindbags.names import open_names
from kindbags.papers import lines, marks
from kindbags.papertexts import in_order, show_paper
from kindbags.programs import nesting, parts
from kindbags.reader import read
from kindbags.running import run
from kindbags.walks import walked
from kindbags.written import paper_of

from plain import answers_paper, drawn_programs, plain_looked, plain_paper
from samples import (ANSWERING, NO_ANSWER, chain, first, give, look, many_lines, name, pair, plus, same, second,
                     small_programs, sum_of, way, whole)

# A program's text and that of its paper.
WRITTEN = [
    # Answers.
    ("7", "."),
    ("(way x x)", "~"),
    ("(way x (first 1))", "~"),
    ("(pair 1 2)", "(both . .)"),
    ("(pair (pair 1 (way x x)) 2)", "(both (both . ~) .)"),
    # Each rule.
    ("(first (pair 1 2))", "(first (left .))"),
    ("(second (pair 1 2))", "(second (right .))"),
    ("(plus 1 2)", "(plus . .)"),
    ("(look 0 1 2)", "(look . .)"),
    ("(look 1 1 (way x x))", "(look . ~)"),
    ("(give (way x x) 3)", "(give (way #3) .)"),
    # Within others.
    ("(plus (plus 1 2) (first (pair 3 4)))", "(plus (plus . .) (first (left .)))"),
    ("(pair (plus 1 2) (look 0 (plus 3 4) 5))", "(both (plus . .) (look . (plus . .)))"),
    ("(first (second (pair 1 (pair (plus 2 3) 4))))", "(first (second (right (left (plus . .)))))"),
    ("(look (plus 1 -1) (pair 1 2) 3)", "(look (plus . .) (both . .))"),
    ("(give (first (pair (way x x) 1)) 2)", "(give (first (left (way #2))) .)"),
    # What is given is met not at all, once, more often, at the same kind, at unlike ones.
    ("(give (way x 1) (first 2))", "(give (way .))"),
    ("(give (way x (way y x)) 2)", "(give (way ~))"),
    ("(give (way x (first (pair 1 x))) 2)", "(give (way (first (left .))))"),
    ("(give (way x (plus x 1)) (plus 1 2))", "(give (way (plus #3 .)) (plus . .))"),
    ("(give (way x (plus x x)) (plus 1 2))", "(give (way (plus #3 #3)) (plus . .) (plus . .))"),
    ("(give (way x (pair x (pair x x))) (way y y))", "(give (way (both #~ (both #~ #~))) ~ ~ ~)"),
    ("(give (way p (plus (second p) (first p))) (pair 1 2))",
     "(give (way (plus (second #(,2)) (first #(1,)))) (left .) (right .))"),
    ("(give (way f (pair (give f 2) (pair f (give f 1)))) (way x x))",
     "(give (way (both (give #[2:2] .) (both #~ (give #[1:1] .)))) ~ (way #1) (way #2))"),
    ("(give (way x (give (way y (plus y y)) x)) 4)", "(give (way (give (way (plus #4 #4)) #4 #4)) . .)"),
    ("(give (give (way x (way y (plus x y))) 1) 2)", "(give (give (way (way (plus #1 #2))) .) .)"),
    ("(give (way f (give f f)) (way x 5))", "(give (way (give #[:5])) (way .))"),
    ("(give (way f (give f f)) (way x x))", "(give (way (give #[~:~] #~)) ~ (way #~))"),
    ("(give (way f (give f (way y 7))) (way x (give x x)))",
     "(give (way (give #[[:7]:7] (way .))) (way (give #[:7])))"),
    ("(give (give (way f (way x (give f (give f x)))) (way y (plus y 1))) 5)",
     "(give (give (way (way (give #[6:7] (give #[5:6] #5)))) (way (plus #5 .)) (way (plus #6 .))) .)"),
]


def kinds_in(kind):
    return len(walked(kind, inner_kinds))


def kind_nesting(kind):
    return 0 if not inner_kinds(kind) else 1 + max(kind_nesting(one) for one in inner_kinds(kind))


class WrittenTest(unittest.TestCase):
    def hold(self, program):
        """What is told of the paper of a program that comes to an answer."""
        word, answer, rules = run(program, 400)
        self.assertEqual(word, "answer")
        wanted = plain_paper(program)
        kinds = [line.kind for line in looked_through(program, wanted).found]
        if len(kinds) > 2000 or any(kinds_in(kind) > 300 or kind_nesting(kind) > 60 for kind in kinds):
            for most in (rules, 400):
                with self.assertRaises(NoRoom):
                    paper_of(program, most)
        else:
            for most in (rules, rules + 1, 400):
                self.assertEqual(paper_of(program, most), wanted)
            self.assertEqual(looked(program, wanted), (answer_kind(answer), {}))
            self.assertEqual(plain_looked(program, wanted)[:2], (answer_kind(answer), {}))
            self.assertEqual(marks(wanted), rules)
            self.assertEqual(in_order(wanted), wanted)
        if rules > 0:
            self.assertIsNone(paper_of(program, rules - 1))
            self.assertIsNone(paper_of(program, 0))

    def test_by_hand(self):
        for text, paper in WRITTEN:
            self.assertEqual(show_paper(paper_of(read(text), 400)), paper, text)
            self.hold(read(text))

    def test_papers_of_runs(self):
        for text in ANSWERING:
            self.hold(read(text))
        for program in drawn_programs(300, 23):
            self.hold(program)

    def test_small_ones(self):
        counts = {}
        for program in small_programs(2, [name(0), whole(0), whole(1)]):
            if open_names(program):
                continue
            word = run(program, 30)[0]
            counts[word] = counts.get(word, 0) + 1
            if word == "answer":
                self.hold(program)
            else:
                self.assertIsNone(paper_of(program, 30))
        self.assertGreater(counts["answer"], 100)
        self.assertGreater(counts["stuck"], 100)

    def test_an_answer_takes_no_rules(self):
        for text in ("7", "(way x x)", "(pair 1 (pair (way x (first x)) 2))"):
            program = read(text)
            for most in (0, 1, 400):
                self.assertEqual(paper_of(program, most), answers_paper(program))
                self.assertEqual(marks(paper_of(program, most)), 0)

    def test_none_where_it_comes_to_no_answer(self):
        for text, word in NO_ANSWER:
            program = read(text)
            self.assertEqual(run(program, 400)[0], word)
            self.assertIsNone(paper_of(program, 400))

    def test_just_so_many_rules(self):
        for many in (399, 400):
            program = sum_of([whole(1)] * (many + 1))
            self.assertEqual(run(program, 400)[2], many)
            self.assertEqual(marks(paper_of(program, 400)), many)
            self.assertEqual(marks(paper_of(program, many)), many)
            self.assertIsNone(paper_of(program, many - 1))
        self.assertIsNone(paper_of(sum_of([whole(1)] * 402), 400))


class RoomTest(unittest.TestCase):
    def no_room(self, program):
        with self.assertRaises(NoRoom):
            paper_of(program, 400)
        with self.assertRaises(BagError):
            paper_of(program, 400)

    def test_lines(self):
        program = many_lines([3, 5, 3, 5], 5)
        self.assertLessEqual((parts(program), nesting(program)), (66, 40))
        paper = paper_of(program, 400)
        self.assertEqual(len(lines(paper)), 2000)
        self.assertEqual(marks(paper), run(program, 400)[2])
        self.assertEqual(len(lines(paper_of(many_lines([2, 5, 5, 4], 6), 400))), 1999)
        one_more = plus(whole(1), many_lines([2, 5, 5, 4], 6))
        self.assertEqual(run(one_more, 400)[0], "answer")
        self.no_room(one_more)
        # Ahead of NoRoom comes that there is no answer.
        self.assertIsNone(paper_of(one_more, run(one_more, 400)[2] - 1))

    def test_kinds_in_a_kind(self):
        # The way's kind is a bag of as many wholes as x is met, itself one, and what it comes to.
        for times, fits in ((297, True), (298, True), (299, False), (300, False)):
            program = give(way(sum_of([name(0)] * times)), whole(1))
            self.assertEqual(run(program, 400)[0], "answer")
            if fits:
                found = looked_through(program, paper_of(program, 400)).found
                self.assertEqual(max(kinds_in(line.kind) for line in found), times + 2)
            else:
                self.no_room(program)

    def test_kinds_in_an_answers_kind(self):
        for many, fits in ((149, True), (150, False)):
            wide = pairs_of([whole(1)] * (many + 1))
            self.assertEqual(run(wide, 400)[0], "answer")
            if fits:
                self.assertEqual(kinds_in(looked(wide, paper_of(wide, 400))[0]), 299)
            else:
                self.no_room(wide)

    def test_deep_kinds(self):
        for depth, fits in ((59, True), (60, True), (61, False), (70, False)):
            answer = whole(1)
            for k in range(depth):
                answer = pair(answer, whole(2)) if k % 2 else pair(whole(2), answer)
            self.fits_so_deep(answer, depth, fits)

    def test_deep_ways(self):
        # A way's kind is one deeper than what it comes to.
        for depth, fits in ((58, True), (59, True), (60, False)):
            body = name(0)
            for _ in range(depth):
                body = pair(whole(2), body)
            self.fits_so_deep(give(way(body), whole(1)), depth + 1, fits)
            # Firsts take off what ways put around, some at a time, so that the program itself doesn't grow great.
            pairs = whole(1)
            for k in range(0, depth, 10):
                body = name(0)
                for _ in range(min(10, depth - k)):
                    body = pair(body, whole(2))
                pairs = give(way(body), pairs)
            self.fits_so_deep(chain(["first"] * depth, pairs), depth + 1, fits)

    def fits_so_deep(self, program, depth, fits):
        self.assertEqual(run(program, 400)[0], "answer")
        if fits:
            found = looked_through(program, paper_of(program, 400)).found
            self.assertEqual(max(kind_nesting(line.kind) for line in found), depth)
        else:
            self.no_room(program)

    def test_kinds_that_grow_many_times_over(self):
        text = "(give (give (way f (give f f)) (way f (way n (look n 0 (plus n (give (give f f) (plus n -1))))))) N)"
        self.assertEqual(marks(paper_of(read(text.replace("N", "4")), 400)), 36)
        for number in ("5", "10", "18"):
            self.assertEqual(run(read(text.replace("N", number)), 400)[0], "answer")
            self.no_room(read(text.replace("N", number)))

    def test_room_is_asked_of_lines_that_are_met_alone(self):
        deep = chain(["first"] * 100, whole(1))
        self.assertEqual(show_paper(paper_of(first(pair(whole(1), deep)), 400)), "(first (left .))")
        self.assertEqual(show_paper(paper_of(look(whole(1), deep, whole(2)), 400)), "(look . .)")


def pairs_of(things):
    """A tree of pairs of these things, as flat as it can be."""
    if len(things) == 1:
        return things[0]
    half = len(things) // 2
    return pair(pairs_of(things[:half]), pairs_of(things[half:]))


class KeptTest(unittest.TestCase):
    def test_what_is_handed_in_stays(self):
        program = read("(give (way p (plus (second p) (first p))) (pair 1 2))")
        before = read("(give (way p (plus (second p) (first p))) (pair 1 2))")
        told = paper_of(program, 400)
        self.assertIs(type(told), tuple)
        for _ in range(2):
            self.assertEqual(paper_of(program, 400), told)
            self.assertIsNone(paper_of(program, 1))
        self.assertEqual(program, before)

    def test_what_was_told_whatever_its_size(self):
        deep = second(pair(whole(0), whole(3)))
        paper = ("second", ("right", ("whole",)))
        for _ in range(49):
            deep, paper = first(pair(deep, whole(0))), ("first", ("left", paper))
        self.assertEqual(run(deep, 400)[0], "answer")
        self.assertTrue(same(paper_of(deep, 400), paper))
        answer = way(chain(["first"] * 5000, name(0)))
        self.assertEqual(paper_of(answer, 400), ("some",))
        self.assertEqual(paper_of(pair(answer, answer), 400), ("both", ("some",), ("some",)))


if __name__ == "__main__":
    unittest.main()
