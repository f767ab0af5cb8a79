import copy
import unittest

from kindbags.names import put_in
from kindbags.programs import inner, is_program, nesting, parts

from samples import OF_EACH_WORD, chain, first, give, look, name, pair, plus, second, small_programs, way, whole


def of_66_parts():
    program = whole(1)
    for k in range(32):
        program = plus(program, whole(k))
    return first(program)


WRONG = [
    None, True, False, 0, 7, "name", "way", "", [], (),
    ("name",), ("name", -1), ("name", True), ("name", False), ("name", "0"), ("name", None), ("name", 0, 0),
    ("name", (0,)), ("name", [0]), ("name", ("name", 0)),
    ("whole",), ("whole", True), ("whole", False), ("whole", "1"), ("whole", None), ("whole", 1, 2),
    ("whole", (1,)), ("whole", [1]), ("whole", ("whole", 1)),
    ("way",), ("way", ("whole", 1), ("whole", 2)), ("way", 0), ("way", "x", ("name", 0)), ("way", None),
    ("way", True), ("way", ()), ("way", [("name", 0)]), ("way", ["name", 0]),
    ("give",), ("give", ("whole", 1)), ("give", ("whole", 1), ("whole", 2), ("whole", 3)),
    ("pair",), ("pair", ("whole", 1)), ("pair", ("whole", 1), ("whole", 2), ("whole", 3)), ("pair", 1, 2),
    ("first",), ("first", ("whole", 1), ("whole", 2)), ("second",), ("second", ("whole", 1), ("whole", 2)),
    ("plus",), ("plus", ("whole", 1)), ("plus", ("whole", 1), ("whole", 2), ("whole", 3)), ("plus", 1, 2),
    ("look",), ("look", ("whole", 1), ("whole", 2)),
    ("look", ("whole", 1), ("whole", 2), ("whole", 3), ("whole", 4)),
    ("third", ("whole", 1)), ("Way", ("name", 0)), ("ways", ("name", 0)), ("wa", ("name", 0)), ("", ("name", 0)),
    ("some",), ("some",) * 3, (None, ("name", 0)), (1, ("name", 0)), (True, ("name", 0)), (["way"], ("name", 0)),
    (("way",), ("name", 0)), (("name", 0),), [("name", 0)], ["name", 0], ["whole", 1], ["way", ("name", 0)],
    ["pair", ("whole", 1), ("whole", 2)],
]


class IsProgramTest(unittest.TestCase):
    def test_each_word(self):
        for program in OF_EACH_WORD:
            self.assertIs(is_program(program), True, program)

    def test_open_and_large_numbers(self):
        self.assertIs(is_program(name(99)), True)
        self.assertIs(is_program(name(10 ** 30)), True)
        self.assertIs(is_program(way(way(name(5)))), True)
        self.assertIs(is_program(whole(-999999999)), True)
        self.assertIs(is_program(whole(10 ** 40)), True)
        self.assertIs(is_program(whole(0)), True)

    def test_all_small_ones(self):
        for program in small_programs(2, [name(0), whole(0)]):
            self.assertIs(is_program(program), True, program)

    def test_wrong_ones(self):
        for thing in WRONG:
            self.assertIs(is_program(thing), False, thing)

    def test_wrong_in_one_part(self):
        good = whole(1)
        for thing in WRONG:
            for whole_thing in (way(thing), give(thing, good), give(good, thing), pair(thing, good),
                                pair(good, thing), first(thing), second(thing), plus(thing, good),
                                plus(good, thing), look(thing, good, good), look(good, thing, good),
                                look(good, good, thing), way(give(good, pair(first(thing), good)))):
                self.assertIs(is_program(whole_thing), False, whole_thing)

    def test_200_within_one_another(self):
        self.assertIs(is_program(chain(["way"] * 199, name(0))), True)
        self.assertIs(is_program(chain(["way"] * 199, ("name", -1))), False)
        thing = 5
        for _ in range(200):
            thing = (thing,)
        self.assertIs(is_program(thing), False)
        thing = "way"
        for _ in range(200):
            thing = [thing]
        self.assertIs(is_program(thing), False)
        self.assertIs(is_program(("way", thing)), False)
        self.assertIs(is_program((thing, ("name", 0))), False)
        self.assertIs(is_program(("name", thing)), False)

    def test_20000_in_all(self):
        program = whole(1)
        for k in range(199):
            wide = ("pair",) + tuple(whole(j) for j in range(2))
            program = pair(wide, program)
        self.assertIs(is_program(program), True)
        self.assertIs(is_program(tuple(range(20000))), False)
        self.assertIs(is_program(("pair",) + (whole(1),) * 6000), False)

    def test_what_was_told_is_a_program_whatever_its_size(self):
        program = chain(["first"] * 40, name(0))
        for _ in range(9):
            program = put_in(program, program)
        self.assertIs(is_program(program), True)
        self.assertIs(is_program(way(program)), True)
        self.assertIs(is_program(pair(program, ("whole", None))), False)

    def test_what_is_asked_of_stays(self):
        thing = ["way", ["name", 0], ("pair", [1], (True, None))]
        before = copy.deepcopy(thing)
        for _ in range(2):
            self.assertIs(is_program(thing), False)
            self.assertIs(is_program(("way", thing)), False)
        self.assertEqual(thing, before)


class InnerTest(unittest.TestCase):
    def test_each_word(self):
        t, u, v = way(name(3)), whole(5), name(1)
        self.assertEqual(inner(name(4)), ())
        self.assertEqual(inner(whole(4)), ())
        self.assertEqual(inner(way(t)), (t,))
        self.assertEqual(inner(first(t)), (t,))
        self.assertEqual(inner(second(t)), (t,))
        self.assertEqual(inner(give(t, u)), (t, u))
        self.assertEqual(inner(pair(t, u)), (t, u))
        self.assertEqual(inner(plus(t, u)), (t, u))
        self.assertEqual(inner(look(t, u, v)), (t, u, v))
        self.assertIs(type(inner(whole(4))), tuple)
        self.assertIs(type(inner(look(t, u, v))), tuple)


class PartsTest(unittest.TestCase):
    def test_each_word(self):
        self.assertEqual([parts(program) for program in OF_EACH_WORD], [1, 2, 4, 3, 4, 4, 1, 3, 4])

    def test_each_part_counts_as_often_as_it_stands(self):
        one = pair(whole(1), whole(1))
        self.assertEqual(parts(pair(one, one)), 7)

    def test_edges(self):
        self.assertEqual(parts(name(0)), 1)
        self.assertEqual(parts(whole(0)), 1)
        self.assertEqual(parts(of_66_parts()), 66)
        self.assertEqual(parts(chain(["way"] * 40, name(0))), 41)

    def test_what_was_told_whatever_its_size(self):
        program = chain(["first"] * 40, name(0))
        for _ in range(9):
            program = put_in(program, program)
        self.assertEqual(parts(program), 40 * 2 ** 9 + 1)


class NestingTest(unittest.TestCase):
    def test_each_word(self):
        self.assertEqual([nesting(program) for program in OF_EACH_WORD], [0, 1, 2, 1, 2, 2, 0, 1, 1])

    def test_the_deepest_counts_wherever_it_stands(self):
        deep = first(second(whole(1)))
        self.assertEqual(nesting(look(deep, whole(1), whole(2))), 3)
        self.assertEqual(nesting(look(whole(1), deep, whole(2))), 3)
        self.assertEqual(nesting(look(whole(1), whole(2), deep)), 3)
        self.assertEqual(nesting(pair(first(whole(1)), deep)), 3)
        self.assertEqual(nesting(pair(deep, first(whole(1)))), 3)

    def test_edges(self):
        self.assertEqual(nesting(chain(["way"] * 40, name(0))), 40)
        self.assertEqual(nesting(of_66_parts()), 33)

    def test_what_was_told_whatever_its_size(self):
        program = chain(["first"] * 40, name(0))
        for _ in range(9):
            program = put_in(program, program)
        self.assertEqual(nesting(program), 40 * 2 ** 9)


if __name__ == "__main__":
    unittest.main()
