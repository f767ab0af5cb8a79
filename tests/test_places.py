import unittest

from kindbags.names import put_in
from kindbags.places import at_place, places, replaced
from kindbags.programs import parts

from samples import OF_EACH_WORD, chain, first, give, look, name, pair, plus, same, second, small_programs, way, whole

PROGRAM = give(way(look(name(0), pair(whole(1), name(2)), first(whole(3)))), plus(whole(4), second(name(0))))


class PlacesTest(unittest.TestCase):
    def test_edges(self):
        self.assertEqual(places(name(3)), [()])
        self.assertEqual(places(whole(3)), [()])

    def test_each_word(self):
        leaf = whole(1)
        for program in (way(leaf), first(leaf), second(leaf)):
            self.assertEqual(places(program), [(), (0,)])
        for program in (give(leaf, leaf), pair(leaf, leaf), plus(leaf, leaf)):
            self.assertEqual(places(program), [(), (0,), (1,)])
        self.assertEqual(places(look(leaf, leaf, leaf)), [(), (0,), (1,), (2,)])

    def test_order(self):
        self.assertEqual(places(PROGRAM), [
            (), (0,), (0, 0), (0, 0, 0), (0, 0, 1), (0, 0, 1, 0), (0, 0, 1, 1), (0, 0, 2), (0, 0, 2, 0),
            (1,), (1, 0), (1, 1), (1, 1, 0),
        ])

    def test_one_for_each_part_in_order(self):
        for program in small_programs(2, [name(0), whole(1)]):
            told = places(program)
            self.assertEqual(len(told), parts(program))
            self.assertEqual(told, sorted(told))
            self.assertEqual(len(set(told)), len(told))
            for place in told:
                self.assertIs(type(place), tuple)
                self.assertIsNotNone(at_place(program, place))

    def test_40_deep(self):
        self.assertEqual(places(chain(["way"] * 40, name(0))), [(0,) * k for k in range(41)])

    def test_the_list_is_the_askers_own(self):
        told = places(PROGRAM)
        self.assertIs(type(told), list)
        before = list(told)
        told.clear()
        self.assertEqual(places(PROGRAM), before)
        again = places(PROGRAM)
        again[0] = (9,)
        again.append((9, 9))
        self.assertEqual(places(PROGRAM), before)


class AtPlaceTest(unittest.TestCase):
    def test_the_program_itself(self):
        for program in OF_EACH_WORD:
            self.assertEqual(at_place(program, ()), program)

    def test_within(self):
        self.assertEqual(at_place(PROGRAM, (0,)), PROGRAM[1])
        self.assertEqual(at_place(PROGRAM, (0, 0)), PROGRAM[1][1])
        self.assertEqual(at_place(PROGRAM, (0, 0, 0)), name(0))
        self.assertEqual(at_place(PROGRAM, (0, 0, 1)), pair(whole(1), name(2)))
        self.assertEqual(at_place(PROGRAM, (0, 0, 1, 1)), name(2))
        self.assertEqual(at_place(PROGRAM, (0, 0, 2)), first(whole(3)))
        self.assertEqual(at_place(PROGRAM, (1, 1, 0)), name(0))

    def test_places_that_arent_there(self):
        for program in OF_EACH_WORD:
            many = len(program) - 1 if program[0] not in ("name", "whole") else 0
            for k in (many, many + 1, 100, -1, -2, -many, -many - 1):
                if k < 0 or k >= many:
                    self.assertIsNone(at_place(program, (k,)), (program, k))
                    self.assertIsNone(at_place(program, (k, 0)), (program, k))

    def test_more_behind_a_name_or_a_whole(self):
        for place in ((0,), (1,), (-1,), (0, 0)):
            self.assertIsNone(at_place(name(0), place))
            self.assertIsNone(at_place(whole(0), place))
        self.assertIsNone(at_place(PROGRAM, (0, 0, 0, 0)))
        self.assertIsNone(at_place(PROGRAM, (1, 0, 0)))
        self.assertIsNone(at_place(PROGRAM, (1, 0, -1)))

    def test_below_0_within(self):
        self.assertIsNone(at_place(PROGRAM, (-1, 0)))
        self.assertIsNone(at_place(PROGRAM, (0, -1)))
        self.assertIsNone(at_place(PROGRAM, (1, -2)))
        self.assertIsNone(at_place(PROGRAM, (1, 2)))


class ReplacedTest(unittest.TestCase):
    def test_the_program_itself(self):
        self.assertEqual(replaced(PROGRAM, (), whole(1)), whole(1))
        self.assertEqual(replaced(name(0), (), PROGRAM), PROGRAM)

    def test_each_inner_one_of_each_word(self):
        a, b, c, other = whole(1), name(2), whole(3), way(name(0))
        self.assertEqual(replaced(way(a), (0,), other), way(other))
        self.assertEqual(replaced(first(a), (0,), other), first(other))
        self.assertEqual(replaced(second(a), (0,), other), second(other))
        self.assertEqual(replaced(give(a, b), (0,), other), give(other, b))
        self.assertEqual(replaced(give(a, b), (1,), other), give(a, other))
        self.assertEqual(replaced(pair(a, b), (0,), other), pair(other, b))
        self.assertEqual(replaced(plus(a, b), (1,), other), plus(a, other))
        self.assertEqual(replaced(look(a, b, c), (0,), other), look(other, b, c))
        self.assertEqual(replaced(look(a, b, c), (1,), other), look(a, other, c))
        self.assertEqual(replaced(look(a, b, c), (2,), other), look(a, b, other))

    def test_the_names_of_the_other_stay_as_they_are(self):
        self.assertEqual(replaced(way(whole(1)), (0,), name(0)), way(name(0)))

    def test_all_else_is_as_it_was(self):
        for place in places(PROGRAM):
            made = replaced(PROGRAM, place, whole(77))
            self.assertEqual(at_place(made, place), whole(77))
            for asked in places(PROGRAM):
                if asked[:len(place)] != place and place[:len(asked)] != asked:
                    self.assertEqual(at_place(made, asked), at_place(PROGRAM, asked))
            self.assertEqual(replaced(made, place, at_place(PROGRAM, place)), PROGRAM)

    def test_what_is_handed_in_stays(self):
        program = pair(whole(1), whole(2))
        replaced(program, (1,), whole(3))
        self.assertEqual(program, ("pair", ("whole", 1), ("whole", 2)))


class WhateverTheSizeTest(unittest.TestCase):
    def test_deep_ones(self):
        program = chain(["second"] * 40, name(0))
        for _ in range(6):
            program = put_in(program, program)
        deep = 40 * 2 ** 6
        place = (0,) * deep
        self.assertEqual(len(places(program)), deep + 1)
        self.assertEqual(at_place(program, place), name(0))
        self.assertIsNone(at_place(program, place + (0,)))
        self.assertTrue(same(replaced(program, place, whole(1)), chain(["second"] * deep, whole(1))))


if __name__ == "__main__":
    unittest.main()
