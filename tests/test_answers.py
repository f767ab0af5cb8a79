import unittest

from kindbags.answers import is_answer, is_data, size
from kindbags.names import put_in
from kindbags.reader import read
from kindbags.running import run

from samples import first, give, look, name, pair, plus, second, small_programs, way, whole

# An answer, its parts as they are counted, and whether it is data.
ANSWERS = [
    (whole(0), 1, True),
    (whole(-7), 1, True),
    (whole(10 ** 20), 1, True),
    (way(name(0)), 1, False),
    (way(pair(whole(1), whole(2))), 1, False),
    (way(give(name(0), first(whole(1)))), 1, False),
    (pair(whole(1), whole(2)), 3, True),
    (pair(whole(1), way(name(0))), 3, False),
    (pair(way(name(0)), whole(1)), 3, False),
    (pair(way(pair(whole(1), whole(1))), way(whole(2))), 3, False),
    (pair(pair(whole(1), whole(2)), whole(3)), 5, True),
    (pair(whole(1), pair(whole(2), whole(3))), 5, True),
    (pair(whole(1), pair(whole(2), pair(whole(3), way(name(0))))), 7, False),
    (pair(pair(whole(1), whole(2)), pair(whole(1), whole(2))), 7, True),
]

RULE = plus(whole(1), whole(2))
NONE = [name(0), RULE, give(way(name(0)), whole(1)), first(pair(whole(1), whole(2))), second(whole(1)),
        look(whole(0), whole(1), whole(2))]


def plain_answer(program):
    if program[0] == "pair":
        return plain_answer(program[1]) and plain_answer(program[2])
    return program[0] in ("whole", "way")


def plain_data(program):
    if program[0] == "pair":
        return plain_data(program[1]) and plain_data(program[2])
    return program[0] == "whole"


def plain_size(answer):
    return 1 + plain_size(answer[1]) + plain_size(answer[2]) if answer[0] == "pair" else 1


class AnswersTest(unittest.TestCase):
    def test_answers(self):
        for answer, many, data in ANSWERS:
            self.assertIs(is_answer(answer), True, answer)
            self.assertEqual(size(answer), many, answer)
            self.assertIs(is_data(answer), data, answer)

    def test_none(self):
        for program in NONE:
            for around in (program, pair(program, whole(1)), pair(whole(1), program), pair(pair(whole(1), program), whole(2)),
                           pair(whole(1), pair(way(name(0)), program))):
                self.assertIs(is_answer(around), False, around)
                self.assertIs(is_data(around), False, around)

    def test_what_stands_in_a_way_isnt_asked(self):
        for program in NONE:
            self.assertIs(is_answer(way(program)), True)
            self.assertIs(is_data(way(program)), False)
            self.assertIs(is_answer(pair(whole(1), way(program))), True)
            self.assertEqual(size(pair(whole(1), way(program))), 3)

    def test_small_ones(self):
        for program in small_programs(2, [name(0), whole(1)]):
            self.assertIs(is_answer(program), plain_answer(program))
            self.assertIs(is_data(program), plain_data(program))
            if plain_answer(program):
                self.assertEqual(size(program), plain_size(program))

    def test_what_runs_come_to(self):
        for text, data in (("(plus 1 2)", True), ("(give (way x (pair x x)) (plus 1 2))", True),
                           ("(give (way x (pair x (way y x))) 1)", False), ("(give (way x (way y x)) 1)", False)):
            answer = run(read(text), 400)[1]
            self.assertIs(is_answer(answer), True)
            self.assertIs(is_data(answer), data)

    def test_what_was_told_whatever_its_size(self):
        deep = pair(pair(name(0), whole(1)), whole(2))
        for _ in range(11):
            deep = put_in(deep, deep)
        many = 2 ** 13 + 1
        self.assertIs(is_answer(deep), False)
        self.assertIs(is_data(deep), False)
        self.assertIs(is_data(put_in(deep, whole(1))), True)
        self.assertEqual(size(put_in(deep, whole(1))), many)
        self.assertIs(is_answer(put_in(deep, way(name(0)))), True)
        self.assertIs(is_data(put_in(deep, way(name(0)))), False)


if __name__ == "__main__":
    unittest.main()
