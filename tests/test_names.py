import unittest

from kindbags.names import lifted, open_names, put_in

from samples import chain, first, give, look, name, pair, plus, same, second, small_programs, way, whole

SMALL = small_programs(2, [name(0), name(1), whole(4)])


def plain_lifted(program, many, least):
    """As the document says it, by calls within one another: under a way m is one more."""
    if program[0] == "name":
        return ("name", program[1] + many) if program[1] >= least else program
    if program[0] == "whole":
        return program
    below = least + 1 if program[0] == "way" else least
    return program[:1] + tuple(plain_lifted(one, many, below) for one in program[1:])


def plain_put_in(program, other, ways=0):
    if program[0] == "name":
        if program[1] == ways:
            return plain_lifted(other, ways, 0)
        return ("name", program[1] - 1) if program[1] > ways else program
    if program[0] == "whole":
        return program
    below = ways + 1 if program[0] == "way" else ways
    return program[:1] + tuple(plain_put_in(one, other, below) for one in program[1:])


class OpenNamesTest(unittest.TestCase):
    def test_each_word(self):
        self.assertEqual(open_names(name(0)), [0])
        self.assertEqual(open_names(name(99)), [99])
        self.assertEqual(open_names(whole(3)), [])
        self.assertEqual(open_names(way(name(0))), [])
        self.assertEqual(open_names(way(name(1))), [0])
        self.assertEqual(open_names(give(name(2), name(1))), [1, 2])
        self.assertEqual(open_names(pair(name(2), name(1))), [1, 2])
        self.assertEqual(open_names(first(name(2))), [2])
        self.assertEqual(open_names(second(name(2))), [2])
        self.assertEqual(open_names(plus(name(7), name(3))), [3, 7])
        self.assertEqual(open_names(look(name(9), name(0), name(4))), [0, 4, 9])

    def test_under_several_ways(self):
        self.assertEqual(open_names(way(way(way(name(2))))), [])
        self.assertEqual(open_names(way(way(way(name(3))))), [0])
        self.assertEqual(open_names(way(way(pair(name(1), name(5))))), [3])
        self.assertEqual(open_names(pair(way(name(3)), way(way(name(3))))), [1, 2])

    def test_a_way_binds_only_within(self):
        self.assertEqual(open_names(give(way(name(0)), name(0))), [0])
        self.assertEqual(open_names(pair(name(0), way(name(0)))), [0])

    def test_each_once_and_sorted(self):
        self.assertEqual(open_names(pair(pair(name(11), name(2)), pair(name(2), way(name(3))))), [2, 11])
        self.assertEqual(open_names(look(name(10), name(9), name(100))), [9, 10, 100])

    def test_the_list_is_the_askers_own(self):
        program = pair(name(1), name(0))
        told = open_names(program)
        self.assertIs(type(told), list)
        told.append(5)
        told[0] = 77
        self.assertEqual(open_names(program), [0, 1])
        closed = open_names(whole(1))
        closed.append(1)
        self.assertEqual(open_names(whole(1)), [])
        self.assertEqual(program, ("pair", ("name", 1), ("name", 0)))

    def test_deep(self):
        self.assertEqual(open_names(chain(["way"] * 40, name(40))), [0])
        self.assertEqual(open_names(chain(["way"] * 40, name(39))), [])


class LiftedTest(unittest.TestCase):
    def test_each_word(self):
        self.assertEqual(lifted(name(0), 3, 0), name(3))
        self.assertEqual(lifted(whole(5), 3, 0), whole(5))
        self.assertEqual(lifted(way(name(1)), 3, 0), way(name(4)))
        self.assertEqual(lifted(give(name(1), name(2)), 3, 0), give(name(4), name(5)))
        self.assertEqual(lifted(pair(name(1), name(2)), 3, 0), pair(name(4), name(5)))
        self.assertEqual(lifted(first(name(1)), 3, 0), first(name(4)))
        self.assertEqual(lifted(second(name(1)), 3, 0), second(name(4)))
        self.assertEqual(lifted(plus(name(1), whole(2)), 3, 0), plus(name(4), whole(2)))
        self.assertEqual(lifted(look(name(0), name(1), name(2)), 3, 0), look(name(3), name(4), name(5)))

    def test_from_m_on(self):
        self.assertEqual(lifted(look(name(1), name(2), name(3)), 10, 2), look(name(1), name(12), name(13)))
        self.assertEqual(lifted(name(1), 10, 2), name(1))

    def test_bound_names_stay(self):
        self.assertEqual(lifted(way(way(look(name(0), name(1), name(2)))), 5, 0),
                         way(way(look(name(0), name(1), name(7)))))
        self.assertEqual(lifted(way(way(look(name(2), name(3), name(4)))), 5, 1),
                         way(way(look(name(2), name(8), name(9)))))
        self.assertEqual(lifted(pair(way(name(1)), name(1)), 1, 1), pair(way(name(1)), name(2)))

    def test_by_0(self):
        for program in SMALL:
            self.assertEqual(lifted(program, 0, 0), program)
            self.assertEqual(lifted(program, 0, 1), program)

    def test_twice(self):
        for program in SMALL:
            self.assertEqual(lifted(lifted(program, 2, 0), 3, 0), lifted(program, 5, 0))
            self.assertEqual(lifted(lifted(program, 2, 1), 3, 3), lifted(program, 5, 1))

    def test_all_small_ones(self):
        for program in SMALL:
            for many, least in ((1, 0), (4, 1), (2, 3)):
                self.assertEqual(lifted(program, many, least), plain_lifted(program, many, least))

    def test_40_deep(self):
        self.assertEqual(lifted(chain(["way"] * 40, name(40)), 2, 0), chain(["way"] * 40, name(42)))
        self.assertEqual(lifted(chain(["way"] * 40, name(39)), 2, 0), chain(["way"] * 40, name(39)))


class PutInTest(unittest.TestCase):
    def test_each_word(self):
        u = plus(name(0), whole(8))
        self.assertEqual(put_in(name(0), u), u)
        self.assertEqual(put_in(name(1), u), name(0))
        self.assertEqual(put_in(whole(2), u), whole(2))
        self.assertEqual(put_in(way(name(1)), u), way(plus(name(1), whole(8))))
        self.assertEqual(put_in(give(name(0), name(2)), u), give(u, name(1)))
        self.assertEqual(put_in(pair(name(3), name(0)), u), pair(name(2), u))
        self.assertEqual(put_in(first(name(0)), u), first(u))
        self.assertEqual(put_in(second(name(0)), u), second(u))
        self.assertEqual(put_in(plus(name(0), name(0)), u), plus(u, u))
        self.assertEqual(put_in(look(name(1), name(0), name(2)), u), look(name(0), u, name(1)))

    def test_where_the_name_doesnt_stand(self):
        u = pair(name(4), way(name(0)))
        self.assertEqual(put_in(way(look(name(0), name(2), name(3))), u), way(look(name(0), name(1), name(2))))
        self.assertEqual(put_in(way(name(0)), u), way(name(0)))
        for program in SMALL:
            self.assertEqual(put_in(lifted(program, 1, 0), u), program)

    def test_under_ways_it_is_lifted(self):
        u = pair(name(0), way(pair(name(0), name(1))))
        self.assertEqual(put_in(way(way(name(2))), u), way(way(pair(name(2), way(pair(name(0), name(3)))))))
        self.assertEqual(put_in(pair(name(0), pair(way(name(1)), way(way(name(2))))), name(5)),
                         pair(name(5), pair(way(name(6)), way(way(name(7))))))
        self.assertEqual(put_in(pair(way(name(1)), way(name(1))), name(0)), pair(way(name(1)), way(name(1))))

    def test_closed_ones_stay_under_ways(self):
        u = way(plus(name(0), whole(1)))
        self.assertEqual(put_in(way(way(name(2))), u), way(way(u)))

    def test_all_small_ones(self):
        for program in SMALL:
            for other in (name(0), whole(9), way(name(1)), pair(name(2), way(name(0)))):
                self.assertEqual(put_in(program, other), plain_put_in(program, other))

    def test_what_is_handed_in_stays(self):
        program, other = way(pair(name(1), name(2))), give(name(0), whole(2))
        self.assertEqual(put_in(program, other), put_in(program, other))
        self.assertEqual(program, ("way", ("pair", ("name", 1), ("name", 2))))
        self.assertEqual(other, ("give", ("name", 0), ("whole", 2)))


class WhateverTheSizeTest(unittest.TestCase):
    """What was told may be handed on: a program put into itself again and again nests ever deeper."""

    def test_deep_ones(self):
        program = chain(["first"] * 20 + ["way"] * 20, name(20))
        for _ in range(8):
            program = put_in(program, program)
        many = 20 * 2 ** 8
        words = (["first"] * 20 + ["way"] * 20) * 2 ** 8
        self.assertTrue(same(program, chain(words, name(many))))
        self.assertEqual(open_names(program), [0])
        self.assertTrue(same(lifted(program, 7, 0), chain(words, name(many + 7))))
        self.assertTrue(same(lifted(program, 7, 1), program))
        self.assertTrue(same(put_in(program, whole(1)), chain(words, whole(1))))


if __name__ == "__main__":
    unittest.main()
