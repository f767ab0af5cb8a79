"""What is promised over the whole program: that its parts tell of one and the same."""

import itertools
import random
import unittest

from kindbags.answers import size
from kindbags.checker import looked
from kindbags.counts import look_ups_of, slips_of, steps_of
from kindbags.errors import NoRoom
from kindbags.forward import forward
from kindbags.joined import around_looked, around_marks, joined
from kindbags.kinds import answer_kind, kind_size, of_answer
from kindbags.machine import Machine
from kindbags.names import names_in, open_names
from kindbags.papers import marks
from kindbags.papertexts import in_order
from kindbags.parted import parted
from kindbags.places import at_place, places, replaced
from kindbags.played import played
from kindbags.programs import parts
from kindbags.reader import read
from kindbags.rules import behind, can_go
from kindbags.running import run
from kindbags.turning import met, rule_places
from kindbags.written import paper_of

from plain import drawn_programs, plain_lines, shuffled
from samples import ANSWERING, NO_ANSWER, SOME, left, name, num, right, small_programs, to, whole

# Kinds from which those of names are drawn where all papers of a program are counted up.
POOL = [SOME, num(0), num(1), left(num(0)), right(num(0)), left(SOME), to([], num(0)), to([num(0)], num(0)), to([], SOME),
        to([SOME], SOME), to([num(0), num(0)], num(0)), to([to([], num(0))], num(0)), left(to([num(0)], num(0)))]


def all_papers(program, pool):
    """All papers of a program whose names' kinds are in the pool, each with its kind and its book."""
    def within(k):
        return all_papers(program[k], pool)

    word = program[0]
    if word == "name":
        return [(("name", kind), kind, {program[1]: (kind,)}) for kind in pool]
    if word == "whole":
        return [(("whole",), num(program[1]), {})]
    if word == "way":
        found = [(("some",), SOME, {})]
        for paper, kind, book in within(1):
            below = {number - 1: bag for number, bag in book.items() if number > 0}
            found.append((("way", paper), ("way", book.get(0, ()), kind), below))
        return found
    if word == "give":
        return papers_of_give(within(1), within(2))
    if word in ("first", "second"):
        wanted = "left" if word == "first" else "right"
        return [((word, paper), kind[1], book) for paper, kind, book in within(1) if kind[0] == wanted]
    if word == "pair":
        found = [(("left", paper), left(kind), book) for paper, kind, book in within(1)]
        found += [(("right", paper), right(kind), book) for paper, kind, book in within(2)]
        for one, other in itertools.product(within(1), within(2)):
            if of_answer(one[1]) and of_answer(other[1]):
                found.append((("both", one[0], other[0]), ("both", one[1], other[1]), together([one[2], other[2]])))
        return found
    if word == "plus":
        return [(("plus", one[0], other[0]), num(one[1][1] + other[1][1]), together([one[2], other[2]]))
                for one, other in itertools.product(within(1), within(2)) if one[1][0] == other[1][0] == "is"]
    found = []
    for one in within(1):
        if one[1][0] == "is":
            for other in within(2 if one[1][1] == 0 else 3):
                found.append((("look", one[0], other[0]), other[1], together([one[2], other[2]])))
    return found


def papers_of_give(ways, given):
    found = []
    for paper, kind, book in ways:
        if kind[0] == "way":
            for row in itertools.product(*[[one for one in given if one[1] == wanted] for wanted in kind[1]]):
                put = ("give", paper, tuple(one[0] for one in row))
                found.append((put, kind[2], together([book] + [one[2] for one in row])))
    return found


def together(books):
    kinds = {}
    for book in books:
        for number, bag in book.items():
            kinds[number] = tuple(sorted(kinds.get(number, ()) + bag))
    return kinds


class OnePaperTest(unittest.TestCase):
    def answering_papers(self, program, pool):
        """Put in order, the papers of the program with a kind of an answer; each is let by."""
        found = []
        for paper, kind, book in all_papers(program, pool):
            self.assertEqual(looked(program, paper), (kind, book))
            if of_answer(kind) and in_order(paper) not in found:
                found.append(in_order(paper))
        return found

    def test_there_is_no_other(self):
        counts = {"answer": 0, "stuck": 0, "more": 0}
        for program in small_programs(2, [name(0), whole(0), whole(1)]):
            if open_names(program) or parts(program) > 7 or len(names_in(program)) > 3:
                continue
            word, came_to, rules = run(program, 400)
            counts[word] += 1
            if word != "answer":
                self.assertEqual(self.answering_papers(program, POOL), [])
                continue
            paper = paper_of(program, 400)
            kinds = [line[1] for path, line in plain_lines(paper) if line[0] == "name"]
            found = self.answering_papers(program, POOL + [kind for kind in kinds if kind not in POOL])
            self.assertEqual(found, [paper], program)
            self.assertEqual(marks(paper), rules)
            self.assertEqual(kind_size(looked(program, paper)[0]), size(came_to))
        self.assertGreater(counts["answer"], 200)
        self.assertGreater(counts["stuck"], 200)

    def test_one_that_runs_on_has_none(self):
        for text, word in NO_ANSWER[:8]:
            program = read(text)
            if len(names_in(program)) <= 4:
                self.assertEqual(self.answering_papers(program, POOL[:8]), [])

    def test_programs_paper_and_run(self):
        draw = random.Random(31)
        for program in [read(text) for text in ANSWERING] + drawn_programs(60, 32):
            word, came_to, rules = run(program, 400)
            self.assertEqual(word, "answer")
            try:
                paper = paper_of(program, 400)
            except NoRoom:
                continue
            kind, book = looked(program, paper)
            self.assertTrue(of_answer(kind))
            self.assertEqual((kind_size(kind), marks(paper), book), (size(came_to), rules, {}))
            told = played(program, shuffled(paper, draw))
            self.assertEqual((told[-1][0], len(told) - 1), (came_to, rules))


class OneAndTheSameTest(unittest.TestCase):
    def test_run_machine_paper_parts_and_rules_ahead(self):
        count = 0
        for program in [read(text) for text in ANSWERING] + drawn_programs(80, 33):
            try:
                paper = paper_of(program, 400)
            except NoRoom:
                continue
            count += 1
            word, came_to, rules = run(program, 400)
            self.by_the_machine(program, paper, came_to, rules)
            self.by_its_parts(program, paper)
            self.by_rules_ahead(program, answer_kind(came_to), rules)
        self.assertGreater(count, 80)

    def by_the_machine(self, program, paper, came_to, rules):
        machine = Machine(program)
        while machine.step():
            pass
        self.assertEqual((machine.word(), machine.program(), machine.rules()), ("answer", came_to, rules))
        self.assertEqual((steps_of(paper), slips_of(paper), look_ups_of(paper)),
                         (machine.steps(), machine.slips(), machine.look_ups()))

    def by_its_parts(self, program, paper):
        for place in places(program):
            around, papers = parted(program, paper, place)
            part = at_place(program, place)
            self.assertEqual(len(papers), met(program, place, 400))
            self.assertEqual(around_marks(around) + sum([marks(one) for one in papers]), marks(paper))
            self.assertEqual(joined(around, papers), paper)
            # Another part of the same kinds and books: one whose rule is done ahead, and one with a rule more.
            if can_go(part, ()):
                others = [forward(part, (), one) for one in papers]
                self.stands_in(program, place, behind(part, ()), around, others)
            self.stands_in(program, place, ("first", ("pair", part, part)), around,
                           [("first", ("left", one)) for one in papers])

    def stands_in(self, program, place, other, around, others):
        whole_one = replaced(program, place, other)
        paper = joined(around, others)
        self.assertEqual(looked(whole_one, paper), around_looked(program, place, around))
        self.assertEqual(marks(paper), around_marks(around) + sum([marks(one) for one in others]))
        told = run(whole_one, 400)
        self.assertIn(told[0], ("answer", "more"))
        if told[0] == "answer":
            self.assertEqual((answer_kind(told[1]), told[2]), (looked(whole_one, paper)[0], marks(paper)))
            self.assertEqual(in_order(paper), paper_of(whole_one, 400))

    def by_rules_ahead(self, program, kind, rules):
        for place in rule_places(program):
            word, came_to, many = run(behind(program, place), 400)
            self.assertEqual((word, answer_kind(came_to), many), ("answer", kind, rules - met(program, place, 400)))


if __name__ == "__main__":
    unittest.main()
