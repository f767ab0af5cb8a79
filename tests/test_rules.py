import unittest

from kindbags.errors import NoRule
from kindbags.names import put_in
from kindbags.places import at_place, places, replaced
from kindbags.rules import behind, can_go

from samples import chain, first, give, look, name, pair, plus, same, second, small_programs, way, whole

A, B, C = whole(11), way(name(0)), plus(name(0), whole(1))

# A program, and what comes in its place by the rule at ().
RULES = [
    (give(way(name(0)), A), A),
    (give(way(whole(2)), A), whole(2)),
    (give(way(pair(name(0), name(1))), C), pair(C, name(0))),
    (give(way(way(pair(name(1), name(0)))), name(0)), way(pair(name(1), name(0)))),
    (give(way(way(way(name(2)))), pair(name(0), way(name(1)))), way(way(pair(name(2), way(name(3)))))),
    (give(B, B), B),
    (first(pair(A, B)), A),
    (second(pair(A, B)), B),
    (first(pair(C, A)), C),
    (plus(whole(2), whole(3)), whole(5)),
    (plus(whole(-2), whole(2)), whole(0)),
    (plus(whole(999999999), whole(999999999)), whole(1999999998)),
    (look(whole(0), A, B), A),
    (look(whole(1), A, B), B),
    (look(whole(-1), A, B), B),
    (look(whole(10 ** 12), A, C), C),
    (look(whole(0), C, A), C),
]

NO_RULES = [
    name(0), whole(3), B, pair(A, B), give(A, B), give(name(0), A), give(give(B, B), A), give(pair(B, A), A),
    give(first(pair(B, A)), A), first(A), first(B), first(name(0)), first(first(pair(pair(A, A), A))), second(A),
    second(give(B, pair(A, A))), plus(A, B), plus(B, A), plus(A, plus(A, A)), plus(plus(A, A), A), plus(A, name(0)),
    look(B, A, A), look(plus(A, A), A, A), look(name(0), A, A), look(pair(A, A), A, A),
]


class RulesTest(unittest.TestCase):
    def test_each_rule(self):
        for program, later in RULES:
            self.assertIs(can_go(program, ()), True, program)
            self.assertEqual(behind(program, ()), later)

    def test_at_any_place(self):
        around = way(look(plus(name(0), A), give(name(1), B), pair(first(A), way(second(A)))))
        for place in places(around):
            for program, later in RULES:
                whole_program = replaced(around, place, program)
                self.assertIs(can_go(whole_program, place), True)
                self.assertEqual(behind(whole_program, place), replaced(around, place, later))
            for program in NO_RULES:
                self.assertIs(can_go(replaced(around, place, program), place), False)

    def test_no_rule(self):
        for program in NO_RULES:
            self.assertIs(can_go(program, ()), False, program)
            with self.assertRaises(NoRule):
                behind(program, ())

    def test_places_that_arent_there(self):
        program = pair(give(B, A), give(B, A))
        for place in ((2,), (-1,), (-2,), (0, 2), (0, -1), (0, 1, 0), (1, 0, 0, 0), (5, 5)):
            self.assertIs(can_go(program, place), False, place)
            with self.assertRaises(NoRule):
                behind(program, place)
        for leaf in (name(0), whole(0)):
            self.assertIs(can_go(leaf, (0,)), False)
            with self.assertRaises(NoRule):
                behind(leaf, (0,))

    def test_all_else_is_as_it_was(self):
        program = pair(plus(whole(1), whole(2)), plus(whole(1), whole(2)))
        self.assertEqual(behind(program, (0,)), pair(whole(3), plus(whole(1), whole(2))))
        self.assertEqual(behind(program, (1,)), pair(plus(whole(1), whole(2)), whole(3)))
        self.assertEqual(program, ("pair", ("plus", ("whole", 1), ("whole", 2)), ("plus", ("whole", 1), ("whole", 2))))

    def test_small_ones(self):
        firsts = {"give": ("way",), "first": ("pair",), "second": ("pair",), "look": ("whole",), "plus": ("whole",)}
        for program in small_programs(2, [name(0), whole(0)]):
            for place in places(program):
                here = at_place(program, place)
                wanted = here[0] in firsts and here[1][0] in firsts[here[0]]
                if here[0] == "plus" and here[2][0] != "whole":
                    wanted = False
                self.assertIs(can_go(program, place), wanted)

    def test_what_was_told_whatever_its_size(self):
        deep = chain(["way"] * 40, name(40))
        for _ in range(7):
            deep = put_in(deep, deep)
        many = 40 * 2 ** 7
        program = pair(A, give(way(deep), C))
        self.assertTrue(same(behind(program, (1,)), pair(A, chain(["way"] * many, plus(name(many), whole(1))))))
        inside = put_in(deep, give(B, A))
        self.assertTrue(same(behind(inside, (0,) * many), chain(["way"] * many, A)))


if __name__ == "__main__":
    unittest.main()
