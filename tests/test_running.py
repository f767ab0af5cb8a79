import unittest

from kindbags.names import open_names, put_in
from kindbags.programs import nesting, parts
from kindbags.reader import read
from kindbags.running import next_place, run
from kindbags.rules import behind, can_go
from kindbags.writer import shown

from samples import chain, first, give, look, name, pair, plus, same, second, small_programs, way, whole

RULE = give(way(name(0)), whole(5))
STUCK = first(whole(1))
CLOSED = [program for program in small_programs(2, [name(0), whole(0)]) if not open_names(program)]


def plain_in_use(program):
    """The next place as the document says it, by calls within one another."""
    if program[0] in ("name", "way", "pair", "whole"):
        return None
    if can_go(program, ()):
        return ()
    k = 0
    if program[0] == "plus" and program[1][0] == "whole":
        k = 1
    rest = plain_in_use(program[k + 1])
    return None if rest is None else (k,) + rest


def plain_answer(program):
    if program[0] == "pair":
        return plain_answer(program[1]) and plain_answer(program[2])
    return program[0] in ("whole", "way")


def plain_next(program):
    if program[0] != "pair":
        return plain_in_use(program)
    k = 1 if plain_answer(program[1]) else 0
    rest = plain_next(program[k + 1])
    return None if rest is None else (k,) + rest


def plain_run(program, most):
    rules = 0
    while True:
        place = plain_next(program)
        if place is None:
            return ("answer" if plain_answer(program) else "stuck", program, rules)
        if rules == most:
            return ("more", program, rules)
        later = behind(program, place)
        if parts(later) > 3000 or nesting(later) > 100:
            return ("great", program, rules)
        program, rules = later, rules + 1


def answer_of_parts(many):
    """An answer of so many parts that nests not deep."""
    if many == 1:
        return whole(7)
    if many == 2:
        return way(whole(7))
    return pair(answer_of_parts((many - 1) // 2), answer_of_parts(many - 1 - (many - 1) // 2))


class NextPlaceTest(unittest.TestCase):
    def test_none_of_answers(self):
        for program in (whole(3), way(RULE), pair(whole(1), way(RULE)), pair(pair(whole(1), whole(2)), whole(3))):
            self.assertIsNone(next_place(program))

    def test_in_use(self):
        for program, place in (
                (RULE, ()),
                (give(RULE, RULE), (0,)),
                (give(give(RULE, RULE), RULE), (0, 0)),
                (first(pair(RULE, RULE)), ()),
                (second(pair(RULE, RULE)), ()),
                (first(RULE), (0,)),
                (second(second(RULE)), (0, 0)),
                (look(whole(3), RULE, RULE), ()),
                (look(RULE, RULE, RULE), (0,)),
                (look(look(RULE, RULE, RULE), RULE, RULE), (0, 0)),
                (plus(whole(1), whole(2)), ()),
                (plus(RULE, RULE), (0,)),
                (plus(whole(1), RULE), (1,)),
                (plus(RULE, whole(1)), (0,)),
                (plus(whole(1), plus(whole(2), RULE)), (1, 1)),
                (plus(whole(1), plus(whole(2), whole(3))), (1,)),
                (plus(plus(whole(1), whole(2)), RULE), (0,))):
            self.assertEqual(next_place(program), place, program)

    def test_none_of_what_is_stuck(self):
        for program in (give(whole(1), RULE), give(pair(RULE, RULE), RULE), first(whole(1)), first(way(RULE)),
                        second(whole(1)), plus(way(RULE), RULE), plus(pair(RULE, RULE), RULE), plus(whole(1), way(RULE)),
                        plus(whole(1), pair(RULE, RULE)), look(way(RULE), RULE, RULE), look(pair(RULE, RULE), RULE, RULE),
                        plus(STUCK, RULE), give(STUCK, RULE), look(STUCK, RULE, RULE)):
            self.assertIsNone(next_place(program), program)

    def test_a_pair_in_the_place_of_an_answer(self):
        self.assertEqual(next_place(pair(RULE, RULE)), (0,))
        self.assertEqual(next_place(pair(whole(1), RULE)), (1,))
        self.assertEqual(next_place(pair(way(RULE), RULE)), (1,))
        self.assertEqual(next_place(pair(pair(whole(1), RULE), RULE)), (0, 1))
        self.assertEqual(next_place(pair(pair(whole(1), whole(2)), RULE)), (1,))
        self.assertEqual(next_place(pair(pair(whole(1), whole(2)), pair(whole(1), first(RULE)))), (1, 1, 0))
        self.assertIsNone(next_place(pair(STUCK, RULE)))
        self.assertIsNone(next_place(pair(pair(whole(1), STUCK), RULE)))
        self.assertIsNone(next_place(pair(whole(1), STUCK)))

    def test_a_pair_in_use(self):
        self.assertIsNone(next_place(give(pair(RULE, RULE), whole(1))))
        self.assertIsNone(next_place(pair(plus(pair(RULE, RULE), RULE), RULE)))

    def test_open_names(self):
        self.assertIsNone(next_place(name(0)))
        self.assertIsNone(next_place(pair(name(0), RULE)))
        self.assertEqual(next_place(pair(whole(0), give(way(name(1)), name(0)))), (1,))

    def test_small_ones(self):
        for program in CLOSED:
            self.assertEqual(next_place(program), plain_next(program))
            self.assertEqual(next_place(pair(program, RULE)), plain_next(pair(program, RULE)))


class RunTest(unittest.TestCase):
    def test_answers(self):
        for text, answer, rules in (
                ("7", "7", 0),
                ("(way x (plus 1 2))", "(way a (plus 1 2))", 0),
                ("(pair 1 (way x x))", "(pair 1 (way a a))", 0),
                ("(plus 1 (plus 2 3))", "6", 2),
                ("(give (way x (plus x x)) (plus 1 2))", "6", 4),
                ("(give (way x 1) (first 2))", "1", 1),
                ("(first (pair 1 (first 2)))", "1", 1),
                ("(second (pair (first 2) 1))", "1", 1),
                ("(look (plus 1 -1) 10 (first 2))", "10", 2),
                ("(look -1 (first 2) 20)", "20", 1),
                ("(look 5 (first 2) 20)", "20", 1),
                ("(pair (plus 1 2) (pair (plus 3 4) (way x (plus 1 2))))", "(pair 3 (pair 7 (way a (plus 1 2))))", 2),
                ("(give (give (way x (way y x)) 1) 2)", "1", 2),
                ("(give (way x (way y x)) (way z z))", "(way a (way b b))", 1),
                ("(give (way f (give f (give f 1))) (way x (plus x x)))", "4", 7)):
            word, program, done = run(read(text), 400)
            self.assertEqual((word, shown(program), done), ("answer", answer, rules), text)

    def test_stuck(self):
        for text, left, rules in (
                ("(first 1)", "(first 1)", 0),
                ("(give 1 (plus 1 2))", "(give 1 (plus 1 2))", 0),
                ("(plus (way x x) 1)", "(plus (way a a) 1)", 0),
                ("(plus (plus 1 2) (pair 1 2))", "(plus 3 (pair 1 2))", 1),
                ("(pair (plus 1 2) (pair (first 3) (plus 1 2)))", "(pair 3 (pair (first 3) (plus 1 2)))", 1),
                ("(look (give (way x (way y x)) 1) 2 3)", "(look (way a 1) 2 3)", 1)):
            word, program, done = run(read(text), 400)
            self.assertEqual((word, shown(program), done), ("stuck", left, rules), text)

    def test_more(self):
        loop = give(way(give(name(0), name(0))), way(give(name(0), name(0))))
        for most in (0, 1, 2, 399, 400):
            self.assertEqual(run(loop, most), ("more", loop, most))

    def test_for_0_rules(self):
        self.assertEqual(run(whole(1), 0), ("answer", whole(1), 0))
        self.assertEqual(run(STUCK, 0), ("stuck", STUCK, 0))
        self.assertEqual(run(RULE, 0), ("more", RULE, 0))
        growing = give(way(answer_of_parts(3001)), whole(1))
        self.assertEqual(run(growing, 0), ("more", growing, 0))

    def test_for_just_as_many_and_one_less(self):
        program = plus(plus(whole(1), whole(2)), plus(whole(3), whole(4)))
        self.assertEqual(run(program, 4), ("answer", whole(10), 3))
        self.assertEqual(run(program, 3), ("answer", whole(10), 3))
        self.assertEqual(run(program, 2), ("more", plus(whole(3), whole(7)), 2))
        self.assertEqual(run(program, 1), ("more", plus(whole(3), plus(whole(3), whole(4))), 1))
        halting = first(plus(whole(1), whole(2)))
        self.assertEqual(run(halting, 2), ("stuck", first(whole(3)), 1))
        self.assertEqual(run(halting, 1), ("stuck", first(whole(3)), 1))
        self.assertEqual(run(halting, 0), ("more", halting, 0))

    def test_just_3000_parts_and_one_more(self):
        for many in (2999, 3000):
            self.assertEqual(parts(answer_of_parts(many)), many)
            program = give(way(answer_of_parts(many)), whole(1))
            self.assertEqual(run(program, 400), ("answer", answer_of_parts(many), 1))
        self.assertEqual(parts(answer_of_parts(3001)), 3001)
        program = give(way(answer_of_parts(3001)), whole(1))
        self.assertEqual(run(program, 400), ("great", program, 0))
        self.assertEqual(run(program, 1), ("great", program, 0))
        later = give(way(program), whole(1))
        self.assertEqual(run(later, 1), ("great", later, 0))

    def test_just_100_deep_and_one_more(self):
        program = give(way(chain(["way"] * 100, whole(1))), whole(1))
        self.assertEqual(run(program, 400), ("answer", chain(["way"] * 100, whole(1)), 1))
        program = give(way(chain(["way"] * 101, whole(1))), whole(1))
        self.assertEqual(run(program, 400), ("great", program, 0))

    def test_growing_deep_from_within_the_bounds(self):
        def program(ends):
            firsts = way(chain(["first"] * 30, name(0)))
            last = chain(["first"] * ends, whole(1))
            return give(way(give(name(0), give(name(0), give(name(0), last)))), firsts)

        self.assertLessEqual(parts(program(11)), 66)
        self.assertEqual(run(program(10), 400), ("stuck", chain(["first"] * 100, whole(1)), 4))
        ahead = chain(["first"] * 60, give(way(chain(["first"] * 30, name(0))), chain(["first"] * 11, whole(1))))
        self.assertEqual(run(program(11), 400), ("great", ahead, 3))
        self.assertEqual(run(program(11), 4), ("great", ahead, 3))
        self.assertEqual(run(program(11), 3), ("more", ahead, 3))

    def test_growing_wide_from_within_the_bounds(self):
        twice = way(pair(name(0), name(0)))
        program = answer_of_parts(21)
        for _ in range(7):
            program = give(twice, program)
        self.assertEqual(parts(program), 56)
        word, grown, rules = run(program, 400)
        self.assertEqual((word, parts(grown), rules), ("answer", 22 * 128 - 1, 127))
        self.assertEqual((word, grown, rules), plain_run(program, 400))
        for _ in range(2):
            program = give(twice, program)
        told = run(program, 400)
        self.assertEqual(told[0], "great")
        self.assertLessEqual(parts(told[1]), 3000)
        self.assertGreater(parts(behind(told[1], next_place(told[1]))), 3000)
        self.assertEqual(told, plain_run(program, 400))

    def test_runs_that_grow_without_an_end(self):
        for text in ("(give (way x (plus (give x x) 1)) (way x (plus (give x x) 1)))",
                     "(give (way x (give (give x x) x)) (way x (give (give x x) x)))",
                     "(give (way x (pair 1 (give x x))) (way x (pair 1 (give x x))))",
                     "(give (way x (give x (pair x x))) (way x (give x (pair x x))))",
                     "(give (way x (give x (way y (give x y)))) (way x (give x (way y (give x y)))))"):
            program = read(text)
            for most in (3, 50, 400):
                self.assertEqual(run(program, most), plain_run(program, most), text)
        self.assertEqual(run(read("(give (way x (pair 1 (give x x))) (way x (pair 1 (give x x))))"), 400)[0], "great")

    def test_small_ones(self):
        for program in CLOSED:
            for most in (0, 1, 20):
                self.assertEqual(run(program, most), plain_run(program, most))

    def test_what_was_told_may_be_run_on(self):
        program = read("(give (way f (give f (give f (give f 1)))) (way x (plus x x)))")
        whole_run = run(program, 400)
        for most in range(whole_run[2]):
            word, left, rules = run(program, most)
            self.assertEqual((word, rules), ("more", most))
            self.assertEqual(run(left, 400), whole_run[:2] + (whole_run[2] - most,))

    def test_what_was_told_whatever_its_size(self):
        deep = chain(["second"] * 40, name(0))
        for _ in range(7):
            deep = put_in(deep, deep)
        many = 40 * 2 ** 7
        self.assertEqual(next_place(put_in(deep, RULE)), (0,) * many)
        self.assertIsNone(next_place(put_in(deep, whole(1))))
        self.assertEqual(run(put_in(deep, whole(1)), 400)[0::2], ("stuck", 0))
        self.assertEqual(run(put_in(deep, RULE), 400)[0::2], ("great", 0))
        self.assertEqual(run(give(way(whole(2)), deep), 400), ("answer", whole(2), 1))
        pairs = pair(pair(name(0), whole(1)), whole(2))
        for _ in range(10):
            pairs = put_in(pairs, pairs)
        self.assertEqual(next_place(put_in(pairs, RULE)), (0,) * 2 ** 11)
        self.assertEqual(run(put_in(pairs, whole(1)), 400)[0::2], ("answer", 0))

    def test_what_is_handed_in_stays(self):
        program = give(way(pair(name(0), name(0))), plus(whole(1), whole(2)))
        self.assertEqual(run(program, 400), run(program, 400))
        self.assertEqual(program, ("give", ("way", ("pair", ("name", 0), ("name", 0))),
                                   ("plus", ("whole", 1), ("whole", 2))))

    def test_kinds(self):
        told = run(RULE, 5)
        self.assertIs(type(told), tuple)
        self.assertIs(type(told[2]), int)
        self.assertIs(type(next_place(pair(RULE, RULE))), tuple)
        self.assertEqual(same(told[1], whole(5)), True)
        self.assertIs(type(next_place(RULE)), tuple)


if __name__ == "__main__":
    unittest.main()
