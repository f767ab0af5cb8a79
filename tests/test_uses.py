import unittest

from kindbags.answers import is_data
from kindbags.reader import read
from kindbags.rules import behind
from kindbags.running import next_place, run
from kindbags.uses import along, costs, roads, there

from plain import drawn_programs
from samples import ANSWERING, NO_ANSWER, chain, first, give, name, pair, plus, same, second, sum_of, way, whole

F, S = "first", "second"

# Data, and the roads to all that stands in it.
ROADS = [
    ("7", {(): "7"}),
    ("(pair 1 2)", {(): "(pair 1 2)", (F,): "1", (S,): "2"}),
    ("(pair (pair 1 2) 3)", {(): "(pair (pair 1 2) 3)", (F,): "(pair 1 2)", (F, F): "1", (F, S): "2", (S,): "3"}),
    ("(pair 1 (pair (pair 2 3) 4))",
     {(): "(pair 1 (pair (pair 2 3) 4))", (F,): "1", (S,): "(pair (pair 2 3) 4)", (S, F): "(pair 2 3)", (S, F, F): "2",
      (S, F, S): "3", (S, S): "4"}),
]

# A program's text and its costs.
COSTS = [
    ("7", {(): 0}),
    ("(plus 1 2)", {(): 1}),
    ("(give (way x (plus x x)) (plus 1 2))", {(): 4}),
    ("(pair 1 2)", {(): 0, (F,): 0, (S,): 0}),
    ("(pair (plus 1 2) 2)", {(): 1, (F,): 1, (S,): 0}),
    ("(pair (plus 1 2) (plus (plus 1 2) 3))", {(): 3, (F,): 1, (S,): 2}),
    ("(give (way x (pair x x)) (plus 1 2))", {(): 3, (F,): 2, (S,): 2}),
    ("(give (way x (pair x (plus x x))) (plus 1 2))", {(): 5, (F,): 2, (S,): 4}),
    ("(pair (give (way x (pair x 5)) (plus 1 2)) (plus 1 2))", {(): 3, (F,): 2, (F, F): 2, (F, S): 1, (S,): 1}),
    ("(look (plus 1 -1) (pair (first (pair (pair (plus 1 1) 2) 3)) 4) 5)",
     {(): 4, (F,): 4, (F, F): 4, (F, S): 3, (S,): 2}),
    ("(first (pair (pair 1 (second (pair 2 (pair 3 4)))) 5))", {(): 2, (F,): 1, (S,): 2, (S, F): 2, (S, S): 2}),
]


def rules_to_answer(program):
    """How many rules it takes, whatever it grows to, and the answer."""
    many, place = 0, next_place(program)
    while place is not None:
        program = behind(program, place)
        many, place = many + 1, next_place(program)
    return many, program


class RoadsTest(unittest.TestCase):
    def test_by_hand(self):
        for text, wanted in ROADS:
            data = read(text)
            self.assertEqual(roads(data), list(wanted))
            for road, part in wanted.items():
                self.assertEqual(there(data, road), read(part))

    def test_kinds(self):
        told = roads(read("(pair 1 2)"))
        self.assertIs(type(told), list)
        self.assertTrue(all(type(road) is tuple for road in told))
        told.clear()
        self.assertEqual(roads(read("(pair 1 2)")), [(), (F,), (S,)])

    def test_roads_that_lead_nowhere(self):
        for text, road in (("7", (F,)), ("7", (S,)), ("7", (S, F)), ("(pair 1 2)", (F, F)), ("(pair 1 2)", (S, S)),
                           ("(pair 1 2)", (S, F, F)), ("(pair (pair 1 2) 3)", (S, F)), ("(pair (pair 1 2) 3)", (F, F, S))):
            self.assertIsNone(there(read(text), road))

    def test_along(self):
        for program in (whole(1), name(3), way(name(0)), plus(whole(1), whole(2))):
            self.assertEqual(along(program, ()), program)
            self.assertEqual(along(program, (F,)), first(program))
            self.assertEqual(along(program, (S,)), second(program))
            self.assertEqual(along(program, (F, S)), second(first(program)))
            self.assertEqual(along(program, (S, F, F)), first(first(second(program))))
        self.assertEqual(along(whole(1), (F,) * 99 + (S,)), chain([S] + [F] * 99, whole(1)))

    def test_along_a_road_comes_what_stands_there(self):
        for text, wanted in ROADS:
            for road, part in wanted.items():
                self.assertEqual(run(along(read(text), road), 400), ("answer", read(part), len(road)))

    def test_what_was_told_whatever_its_size(self):
        data = whole(1)
        for _ in range(1200):
            data = pair(whole(0), data)
        told = roads(data)
        self.assertEqual(len(told), 2401)
        self.assertEqual(told[:4], [(), (F,), (S,), (S, F)])
        self.assertEqual(told[-1], (S,) * 1200)
        self.assertEqual(there(data, told[-1]), whole(1))
        self.assertEqual(there(data, told[-2]), whole(0))
        self.assertIsNone(there(data, told[-1] + (F,)))
        self.assertTrue(same(there(data, ()), data))
        self.assertEqual(set(costs(data).values()), {0})
        self.assertEqual(list(costs(data)), told)


class CostsTest(unittest.TestCase):
    def hold(self, program):
        """What is told of the costs of a program that comes to data holds."""
        told = costs(program)
        self.assertIs(type(told), dict)
        data = run(program, 400)[1]
        self.assertEqual(list(told), roads(data))
        for road, cost in told.items():
            many, answer = rules_to_answer(along(program, road))
            self.assertEqual(answer, there(data, road))
            self.assertEqual(cost, many - len(road))

    def test_by_hand(self):
        for text, wanted in COSTS:
            self.assertEqual(list(costs(read(text)).items()), list(wanted.items()), text)
            self.hold(read(text))

    def test_drawn_ones(self):
        count = 0
        for program in [read(text) for text in ANSWERING] + drawn_programs(400, 61):
            if is_data(run(program, 400)[1]):
                self.hold(program)
                count += 1
            else:
                self.assertIsNone(costs(program))
        self.assertGreater(count, 200)

    def test_none_where_it_comes_to_no_data(self):
        for text in ("(way x x)", "(pair 1 (way x x))", "(plus 1 (way x x))", "(pair (plus 1 2) (pair (way x 1) 2))",
                     "(give (way x x) (way y y))"):
            self.assertIsNone(costs(read(text)))
        for text, word in NO_ANSWER:
            self.assertIsNone(costs(read(text)))

    def test_just_400_rules_and_more(self):
        self.assertEqual(costs(sum_of([whole(1)] * 401)), {(): 400})
        self.assertIsNone(costs(sum_of([whole(1)] * 402)))
        row = pair(sum_of([whole(1)] * 201), sum_of([whole(1)] * 201))
        self.assertEqual(costs(row), {(): 400, (F,): 200, (S,): 200})
        self.assertIsNone(costs(pair(row, plus(whole(1), whole(1)))))
        # Along the road it is more than 400 rules with the road's own.
        deep = sum_of([whole(1)] * 401)
        for _ in range(20):
            deep = pair(deep, whole(1))
        told = costs(deep)
        self.assertEqual(told[(F,) * 20], 400)
        self.assertEqual(rules_to_answer(along(deep, (F,) * 20))[0], 420)
        self.assertEqual(told[(F,) * 19 + (S,)], 0)
        self.assertEqual(told[()], 400)

    def test_whatever_the_runs_grow_to(self):
        # Itself it nests 95 deep, along its longest road 190 deep.
        deep = plus(whole(1), whole(2))
        for _ in range(95):
            deep = pair(deep, whole(1))
        self.assertEqual(run(along(deep, (F,) * 95), 400)[0], "great")
        told = costs(deep)
        self.assertEqual(told[(F,) * 95], 1)
        self.assertEqual(told[(F,) * 94], 1)
        self.assertEqual(told[(F,) * 94 + (S,)], 0)
        self.hold(deep)

    def test_what_grows_great_comes_to_none(self):
        big = sum_of([name(0)] * 1001)
        self.assertEqual(run(give(way(big), sum_of([whole(1)] * 2)), 400)[0], "great")
        self.assertIsNone(costs(give(way(big), sum_of([whole(1)] * 2))))

    def test_the_dict_is_the_askers_own(self):
        program = read("(pair (plus 1 2) 2)")
        told = costs(program)
        told[()] = 9
        told.clear()
        self.assertEqual(costs(program), {(): 1, (F,): 1, (S,): 0})
        self.assertEqual(program, read("(pair (plus 1 2) 2)"))


if __name__ == "__main__":
    unittest.main()
