import unittest

from kindbags.checker import stands
from kindbags.errors import NoRoom
from kindbags.kinds import answer_kind
from kindbags.places import places
from kindbags.reader import read
from kindbags.rules import behind
from kindbags.running import run
from kindbags.turning import best, met, rule_places
from kindbags.written import paper_of

from plain import drawn_programs, plain_rule_places
from samples import (ANSWERING, NO_ANSWER, chain, first, give, look, many_lines, name, pair, plus, second, small_programs,
                     sum_of, way, whole)

# A program's text, the places where a rule can go with how often each is met, and the best one.
MET = [
    ("7", [], None),
    ("(way x x)", [], None),
    ("(pair 1 (way x x))", [], None),
    ("(plus 1 2)", [((), 1)], ()),
    ("(first (pair 1 2))", [((), 1)], ()),
    ("(second (pair 1 2))", [((), 1)], ()),
    ("(look 0 1 2)", [((), 1)], ()),
    ("(give (way x x) 3)", [((), 1)], ()),
    # Never met: under a way that isn't given anything, in what is thrown away.
    ("(way x (plus 1 2))", [((0,), 0)], (0,)),
    ("(pair (way x (plus 1 2)) (way x (first (pair 1 2))))", [((0, 0), 0), ((1, 0), 0)], (0, 0)),
    ("(first (pair 1 (plus 1 2)))", [((), 1), ((0, 1), 0)], ()),
    ("(look 0 1 (plus 1 2))", [((), 1), ((2,), 0)], ()),
    ("(give (way x 1) (plus 1 2))", [((), 1), ((1,), 0)], ()),
    ("(first (pair (way x (plus 1 2)) 3))", [((), 1), ((0, 0, 0), 0)], ()),
    # Met several times.
    ("(give (way x (plus x x)) (plus 1 2))", [((), 1), ((1,), 2)], (1,)),
    ("(give (way x (plus x (plus x x))) (plus 1 2))", [((), 1), ((1,), 3)], (1,)),
    ("(give (way f (plus (give f 1) (give f 2))) (way x (plus x (plus 3 4))))", [((), 1), ((1, 0, 1), 2)], (1, 0, 1)),
    ("(give (way f (give f (give f (give f 1)))) (way x (first (pair x 9))))", [((), 1), ((1, 0), 3)], (1, 0)),
    # The first of those that are met as often.
    ("(plus (plus 1 2) (plus 3 4))", [((0,), 1), ((1,), 1)], (0,)),
    ("(pair (plus 1 2) (pair (plus 3 4) (plus 5 6)))", [((0,), 1), ((1, 0), 1), ((1, 1), 1)], (0,)),
    ("(give (way x (plus x x)) (plus (plus 1 2) (plus 3 4)))", [((), 1), ((1, 0), 2), ((1, 1), 2)], (1, 0)),
    ("(pair (way x (plus 1 2)) (plus 3 4))", [((0, 0), 0), ((1,), 1)], (1,)),
]


class RulePlacesTest(unittest.TestCase):
    def test_by_hand(self):
        for text, found, wanted in MET:
            self.assertEqual(rule_places(read(text)), [place for place, many in found], text)

    def test_each_of_the_rules_and_none(self):
        for program, found in ((name(0), []), (plus(whole(1), name(0)), []), (plus(name(0), whole(1)), []),
                               (first(name(0)), []), (first(way(name(0))), []), (look(name(0), whole(1), whole(2)), []),
                               (look(way(name(0)), whole(1), whole(2)), []), (give(name(0), way(name(0))), []),
                               (give(pair(whole(1), whole(2)), whole(1)), []),
                               (way(give(way(name(1)), name(0))), [(0,)]),
                               (second(pair(first(pair(name(0), name(1))), plus(whole(1), whole(2)))),
                                [(), (0, 0), (0, 1)])):
            self.assertEqual(rule_places(program), found)

    def test_small_ones(self):
        for program in small_programs(2, [name(0), whole(0)])[:2000]:
            self.assertEqual(rule_places(program), plain_rule_places(program))

    def test_drawn_ones(self):
        for program in drawn_programs(100, 41):
            self.assertEqual(rule_places(program), plain_rule_places(program))

    def test_the_list_is_the_askers_own(self):
        program = read("(plus (plus 1 2) (plus 3 4))")
        told = rule_places(program)
        self.assertIs(type(told), list)
        told.clear()
        self.assertEqual(rule_places(program), [(0,), (1,)])
        self.assertEqual(program, read("(plus (plus 1 2) (plus 3 4))"))

    def test_what_was_told_whatever_its_size(self):
        program = chain(["first"] * 3000, pair(plus(whole(1), whole(2)), whole(3)))
        self.assertEqual(rule_places(program), [(0,) * 2999, (0,) * 3001])


class MetTest(unittest.TestCase):
    def test_by_hand(self):
        for text, found, wanted in MET:
            program = read(text)
            for place, many in found:
                self.assertEqual(met(program, place, 400), many, text)
            self.assertEqual(best(program, 400), wanted, text)

    def test_other_places(self):
        # Any place is met as often as the paper has lines there, also one where no rule can go.
        program = read("(give (way x (plus x x)) (plus 1 2))")
        for place, many in (((0,), 1), ((0, 0), 1), ((0, 0, 1), 1), ((1, 0), 2), ((1, 1), 2)):
            self.assertEqual(met(program, place, 400), many)
        for place in ((2,), (-1,), (0, 0, 0, 0), (1, 2), (1, 0, 0), (9, 9), (-1, 0)):
            self.assertEqual(met(program, place, 400), 0)
        self.assertEqual(met(whole(7), (), 0), 1)
        self.assertEqual(met(whole(7), (0,), 0), 0)

    def test_as_many_lines_as_the_paper_has(self):
        for text in ANSWERING:
            program = read(text)
            try:
                paper = paper_of(program, 400)
            except NoRoom:
                continue
            stood = stands(program, paper)
            for place in places(program):
                self.assertEqual(met(program, place, 400), stood.count(place))

    def test_done_ahead_the_run_is_shorter_by_so_many_rules(self):
        counts = {}
        for program in [read(text) for text in ANSWERING] + drawn_programs(150, 42):
            word, came_to, rules = run(program, 400)
            try:
                paper_of(program, 400)
            except NoRoom:
                continue
            for place in rule_places(program):
                many = met(program, place, 400)
                told = run(behind(program, place), 400)
                self.assertEqual((told[0], told[2]), ("answer", rules - many))
                self.assertEqual(answer_kind(told[1]), answer_kind(came_to))
                counts[min(many, 2)] = counts.get(min(many, 2), 0) + 1
        self.assertTrue(all(counts[many] > 20 for many in range(3)), counts)

    def test_the_best_is_met_most_often(self):
        for program in drawn_programs(100, 43):
            try:
                told = best(program, 400)
            except NoRoom:
                continue
            found = rule_places(program)
            times = [met(program, place, 400) for place in found]
            self.assertEqual(told, found[times.index(max(times))] if found else None)

    def test_none_where_there_is_no_answer(self):
        for text, word in NO_ANSWER:
            program = read(text)
            self.assertIsNone(best(program, 400))
            for place in ((), (0,), (7, 7)):
                self.assertIsNone(met(program, place, 400))

    def test_just_as_many_rules_and_one_less(self):
        program = read("(give (way x (plus x x)) (plus 1 2))")
        self.assertEqual((met(program, (1,), 4), best(program, 4)), (2, (1,)))
        self.assertEqual((met(program, (1,), 3), best(program, 3)), (None, None))
        self.assertEqual((met(program, (9,), 4), met(program, (9,), 3)), (0, None))
        long = sum_of([whole(1)] * 401)
        self.assertEqual(met(long, (), 400), 1)
        self.assertEqual(met(long, (), 399), None)
        # The first plus of two wholes.
        self.assertEqual(best(long, 400), rule_places(long)[0])

    def test_no_room(self):
        for program in (plus(whole(1), many_lines([2, 5, 5, 4], 6)),
                        give(way(sum_of([name(0)] * 299)), whole(1)),
                        read("(give (give (way f (give f f)) (way f (way n (look n 0 (plus n (give (give f f) (plus n"
                             " -1))))))) 5)")):
            rules = run(program, 400)[2]
            for place in ((), (0,), (9, 9)):
                with self.assertRaises(NoRoom):
                    met(program, place, 400)
                # That there is no answer is told first.
                self.assertIsNone(met(program, place, rules - 1))
            with self.assertRaises(NoRoom):
                best(program, 400)
            self.assertIsNone(best(program, rules - 1))
        # Also where there is no rule.
        answer = whole(1)
        for _ in range(61):
            answer = pair(answer, whole(1))
        self.assertEqual(rule_places(answer), [])
        with self.assertRaises(NoRoom):
            best(answer, 400)
        with self.assertRaises(NoRoom):
            met(answer, (9,), 400)

    def test_what_is_handed_in_stays(self):
        program = read("(give (way x (plus x x)) (plus 1 2))")
        for _ in range(2):
            self.assertEqual(met(program, (1,), 400), 2)
            self.assertEqual(best(program, 400), (1,))
            self.assertIs(type(best(program, 400)), tuple)
        self.assertEqual(program, read("(give (way x (plus x x)) (plus 1 2))"))


if __name__ == "__main__":
    unittest.main()
