import itertools
import unittest

from kindbags.better import as_good, fewer
from kindbags.checker import looked, stands
from kindbags.errors import BagError, NoData, NoRoom
from kindbags.kinds import answer_kind
from kindbags.names import open_names
from kindbags.papers import lines
from kindbags.places import at_place, places, replaced
from kindbags.reader import read
from kindbags.running import run
from kindbags.uses import along, costs, roads, there
from kindbags.written import paper_of

from plain import drawn_programs
from samples import ANSWERING, NO_ANSWER, both, left, num, pair, right, sum_of, whole

F, S = "first", "second"

# Texts of two programs, what is told of the first beside the second, and the other way about.
COMPARED = [
    ("7", "7", None, None),
    ("(plus 1 2)", "(plus 1 2)", None, None),
    ("3", "(plus 1 2)", None, ("more", ())),
    ("(plus 1 2)", "(plus 0 3)", None, None),
    ("(plus 1 2)", "(plus 1 (plus 1 1))", None, ("more", ())),
    ("(pair 1 2)", "(pair 1 2)", None, None),
    ("(pair 3 2)", "(pair (plus 1 2) 2)", None, ("more", ())),
    # As many rules in all, but not along each road.
    ("(pair (plus 1 2) 3)", "(pair 3 (plus 1 2))", ("more", (F,)), ("more", (S,))),
    ("(pair (plus 1 2) (plus 1 2))", "(give (way x (pair x 3)) (plus 1 2))", None, ("more", (F,))),
    ("(pair (pair 1 (plus 1 1)) 3)", "(pair (pair 1 2) (plus 1 2))", ("more", (F,)), ("more", (S,))),
    ("(pair (pair (plus 1 1) 2) 3)", "(pair (pair 2 (plus 1 1)) 3)", ("more", (F, F)), ("more", (F, S))),
    ("(pair 3 (pair 1 (plus 1 1)))", "(pair 3 (pair (plus 1 0) 2))", ("more", (S, S)), ("more", (S, F))),
    # Unlike data.
    ("1", "2", ("other", ()), ("other", ())),
    ("1", "(plus 1 1)", ("other", ()), ("other", ())),
    ("1", "(pair 1 2)", ("other", ()), ("other", ())),
    ("(pair 1 2)", "(pair 1 3)", ("other", (S,)), ("other", (S,))),
    ("(pair 2 2)", "(pair 1 3)", ("other", (F,)), ("other", (F,))),
    ("(pair 1 (pair 2 3))", "(pair 1 2)", ("other", (S,)), ("other", (S,))),
    ("(pair (pair 1 2) 5)", "(pair (pair 1 3) 6)", ("other", (F, S)), ("other", (F, S))),
    ("(pair (pair 1 2) 5)", "(pair (pair 1 2) 6)", ("other", (S,)), ("other", (S,))),
    ("(pair 1 -1)", "(pair 1 1)", ("other", (S,)), ("other", (S,))),
    # Unlike data are told ahead of costs.
    ("(pair (plus 1 2) 4)", "(pair 3 5)", ("other", (S,)), ("other", (S,))),
]

NO_DATA = ["(way x x)", "(pair 1 (way x x))", "(give (way x (give x x)) (way x (give x x)))", "(first 1)"]


class AsGoodTest(unittest.TestCase):
    def test_by_hand(self):
        for one, other, wanted, turned in COMPARED:
            self.assertEqual(as_good(read(one), read(other)), wanted, (one, other))
            self.assertEqual(as_good(read(other), read(one)), turned, (other, one))

    def test_no_data(self):
        for text in NO_DATA + [text for text, word in NO_ANSWER]:
            for one, other in ((text, "7"), ("7", text), (text, text), (text, NO_DATA[0])):
                with self.assertRaises(NoData):
                    as_good(read(one), read(other))
        with self.assertRaises(BagError):
            as_good(read("(way x x)"), read("7"))

    def test_just_400_rules_and_more(self):
        long = sum_of([whole(1)] * 401)
        self.assertIsNone(as_good(whole(401), long))
        self.assertEqual(as_good(long, whole(401)), ("more", ()))
        with self.assertRaises(NoData):
            as_good(whole(402), sum_of([whole(1)] * 402))
        with self.assertRaises(NoData):
            as_good(sum_of([whole(1)] * 402), whole(402))

    def plainly(self, one, other):
        """As the document says it."""
        data, others = run(one, 400)[1], run(other, 400)[1]
        for road in roads(data):
            here, beside = there(data, road), there(others, road)
            if here[0] != beside[0] or here[0] == "whole" and here != beside:
                return ("other", road)
        for road in roads(data):
            if costs(one)[road] > costs(other)[road]:
                return ("more", road)
        return None

    def test_each_beside_each(self):
        texts = sorted(set([text for row in COMPARED for text in row[:2]]))
        words = set()
        for one, other in itertools.product([read(text) for text in texts], repeat=2):
            told = as_good(one, other)
            self.assertEqual(told, self.plainly(one, other))
            words.add(told and told[0])
            if told is None:
                self.assertEqual(run(one, 400)[1], run(other, 400)[1])
                continue
            # A surrounding in which it takes more, or tells something else.
            here, beside = run(along(one, told[1]), 400), run(along(other, told[1]), 400)
            if told[0] == "more":
                self.assertEqual(here[1], beside[1])
                self.assertGreater(here[2], beside[2])
            else:
                self.assertNotEqual(answer_kind(here[1]), answer_kind(beside[1]))
        self.assertEqual(words, {None, "other", "more"})

    def test_what_is_handed_in_stays(self):
        one, other = read("(pair (plus 1 2) 3)"), read("(pair 3 (plus 1 2))")
        for _ in range(2):
            told = as_good(one, other)
            self.assertEqual(told, ("more", (F,)))
            self.assertIs(type(told), tuple)
            self.assertIs(type(told[1]), tuple)
        self.assertEqual((one, other), (read("(pair (plus 1 2) 3)"), read("(pair 3 (plus 1 2))")))

    def test_what_was_told_whatever_its_size(self):
        one, other = whole(3), whole(4)
        for _ in range(700):
            one, other = pair(whole(0), one), pair(whole(0), other)
        self.assertIsNone(as_good(one, one))
        self.assertEqual(as_good(one, other), ("other", (S,) * 700))


class FewerTest(unittest.TestCase):
    def test_by_hand(self):
        one = read("(pair (pair 3 5) 2)")
        other = read("(give (way x (pair (pair x (plus 1 (plus 2 2))) (plus 1 1))) (plus 1 2))")
        self.assertIsNone(as_good(one, other))
        for kind, many in ((both(both(num(3), num(5)), num(2)), 5), (left(both(num(3), num(5))), 4),
                           (left(left(num(3))), 2), (left(right(num(5))), 3), (right(num(2)), 2)):
            self.assertEqual(fewer(kind, one, other), many)
            self.assertEqual(fewer(kind, one, one), 0)
            self.assertEqual(fewer(kind, other, other), 0)
        self.assertEqual(fewer(num(3), read("3"), read("(plus 1 2)")), 1)
        self.assertEqual(fewer(num(3), read("(plus 1 2)"), read("(plus 1 (plus 1 1))")), 1)
        self.assertEqual(fewer(num(3), read("3"), read("3")), 0)

    def test_in_every_surrounding(self):
        # For each line at the place as many rules fewer as the costs of its use differ.
        counts = {}
        for program in [read(text) for text in ANSWERING] + SURROUNDINGS + drawn_programs(150, 71):
            try:
                paper = paper_of(program, 400)
            except NoRoom:
                continue
            for place in places(program):
                part = at_place(program, place)
                if not open_names(part) and costs(part) is not None:
                    for better in better_ones(part):
                        many = self.in_its_stead(program, paper, place, better)
                        counts[min(many, 2)] = counts.get(min(many, 2), 0) + 1
        self.assertTrue(all(counts[many] > 20 for many in range(3)), counts)

    def in_its_stead(self, program, paper, place, better):
        part = at_place(program, place)
        self.assertIsNone(as_good(better, part))
        word, came_to, rules = run(program, 400)
        kinds = [looked(part, line)[0] for (path, line), at in zip(lines(paper), stands(program, paper)) if at == place]
        saved = sum([fewer(kind, better, part) for kind in kinds])
        self.assertGreaterEqual(saved, 0)
        told = run(replaced(program, place, better), 400)
        self.assertEqual((told[0], told[2]), ("answer", rules - saved))
        self.assertEqual(answer_kind(told[1]), answer_kind(came_to))
        return saved


SURROUNDINGS = [read(text) for text in (
    "(give (way p (plus (first p) (plus (first p) (second p)))) (give (way x (pair x (plus x x))) (plus 1 2)))",
    "(give (way p (pair p (first p))) (pair (plus 1 2) (plus 3 4)))",
    "(give (way p (look (first (second p)) (second p) p)) (pair (plus 1 2) (pair (plus 1 -1) (plus 3 4))))",
    "(give (way f (plus (give f 1) (give f 2))) (way y (plus y (second (pair 1 (plus 3 (plus 1 1)))))))",
)]


def better_ones(program):
    """Some that are as good: the data itself, and of a pair such that have one of the two done."""
    data = run(program, 400)[1]
    found = [data, program]
    if program[0] == "pair":
        found += [pair(data[1], program[2]), pair(program[1], data[2])]
    return found


if __name__ == "__main__":
    unittest.main()
