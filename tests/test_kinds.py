import copy
import itertools
import unittest

from kindbags.answers import size
from kindbags.kinds import answer_kind, is_kind, kind_size, of_answer
from kindbags.names import put_in
from kindbags.walks import flat

from plain import plain_kind
from samples import KINDS, SOME, both, left, name, num, pair, plus, right, same, small_kinds, to, way, whole

ONE, TWO = num(1), num(2)

WRONG = [
    None, True, False, 0, 7, "is", "some", "~", "", [], (),
    ("is",), ("is", True), ("is", False), ("is", "1"), ("is", None), ("is", 1, 2), ("is", (1,)), ("is", [1]),
    ("is", ONE), ("some", 1), ("some", None), ("some", SOME), ("some", ()),
    ("way",), ("way", ()), ("way", ONE), ("way", (), ONE, ONE), ("way", ONE, ONE), ("way", [], ONE), ("way", [ONE], ONE),
    ("way", None, ONE), ("way", True, ONE), ("way", "", ONE), ("way", 1, ONE), ("way", (), ()), ("way", (1,), ONE),
    ("way", (None,), ONE), ("way", ("is", 1), ONE), ("way", ((),), ONE), ("way", (ONE, None), ONE),
    ("way", (ONE, "some"), ONE), ("way", ((ONE,),), ONE), ("way", ([ONE],), ONE), ("way", ONE, ()),
    ("way", (TWO, ONE), ONE), ("way", (SOME, ONE), ONE), ("way", (ONE, ("both", ONE, ONE)), ONE),
    ("way", (ONE, TWO, ONE), SOME), ("way", (num(10), num(2)), SOME), ("way", (ONE, SOME, SOME, ONE), SOME),
    ("left",), ("left", ONE, ONE), ("left", 1), ("left", None), ("left", [ONE]), ("left", ["is", 1]), ("left", ()),
    ("right",), ("right", ONE, ONE), ("right", "some"), ("right", True), ("right", (ONE,)),
    ("both",), ("both", ONE), ("both", ONE, ONE, ONE), ("both", ONE, None), ("both", True, ONE), ("both", ONE, "some"),
    ("both", (ONE, ONE)), ("both", [ONE], ONE), ("both", ("is",), ONE), ("both", ("some", 1), ONE), ("both", (), ONE),
    both(left(ONE), ONE), both(ONE, left(ONE)), both(right(ONE), ONE), both(ONE, right(SOME)),
    both(to([], ONE), ONE), both(ONE, to([], ONE)), both(ONE, both(ONE, left(ONE))), both(both(to([], ONE), SOME), SOME),
    ("whole", 1), ("name", 0), ("pair", ONE, ONE), ("Some",), ("is ", 1), ("", 1), ("ways", (), ONE), ("first", ONE),
    (None,), (1,), (True,), (None, ONE), (["is"], 1), (("is",), 1), (ONE,), (SOME, ONE), (["some"],), [1], ["is", 1],
    ["some"], ["left", ONE], ["both", ONE, ONE], ["way", (), ONE], [ONE],
]


def nested(depth, around, kind):
    for _ in range(depth):
        kind = around(kind)
    return kind


class IsKindTest(unittest.TestCase):
    def test_each_form(self):
        for kind, text in KINDS:
            self.assertIs(is_kind(kind), True, kind)

    def test_all_small_ones(self):
        for kind in small_kinds(2)[::7]:
            self.assertIs(is_kind(kind), True, kind)

    def test_wrong_ones(self):
        for thing in WRONG:
            self.assertIs(is_kind(thing), False, thing)
            self.assertIs(plain_kind(thing), False, thing)

    def test_wrong_in_one_part(self):
        for thing in WRONG:
            for around in (left(thing), right(thing), both(thing, ONE), both(ONE, thing), ("way", (), thing),
                           ("way", (thing,), ONE), ("way", (ONE, thing), ONE), ("way", (thing, SOME), ONE),
                           left(right(("way", (("way", (thing,), ONE),), SOME)))):
                self.assertIs(is_kind(around), False, around)

    def test_bags_in_order_and_not(self):
        kinds = [both(ONE, ONE), num(-3), num(2), num(10), left(ONE), left(SOME), right(num(0)), SOME, to([], SOME),
                 to([ONE], ONE), to([ONE, ONE], num(0)), to([TWO], num(0))]
        self.assertEqual(kinds, sorted(kinds))
        for many in range(4):
            for bag in itertools.product(kinds, repeat=many):
                wanted = list(bag) == sorted(bag)
                self.assertIs(is_kind(("way", bag, ONE)), wanted, bag)
        self.assertIs(is_kind(left(to([("way", (TWO, ONE), ONE)], ONE))), False)
        self.assertIs(is_kind(("way", (), ("way", (TWO, ONE), ONE))), False)

    def test_numbers(self):
        for number in (0, -1, 10 ** 12 - 1, 10 ** 12, -(10 ** 12), 10 ** 40):
            self.assertIs(is_kind(num(number)), True)

    def test_60_deep(self):
        for around in (left, right, lambda k: to([], k), lambda k: to([k], SOME), lambda k: to([k, k], k)):
            depth = 60 if around(SOME) != to([SOME, SOME], SOME) else 4
            self.assertIs(is_kind(nested(depth, around, ONE)), True)
            self.assertIs(is_kind(nested(depth, around, ("is", True))), False)
            self.assertIs(is_kind(nested(depth, around, ("way", (SOME, ONE), ONE))), False)
        self.assertIs(is_kind(nested(60, lambda k: both(SOME, k), ONE)), True)
        self.assertIs(is_kind(nested(60, lambda k: both(k, SOME), left(ONE))), False)

    def test_300_kinds(self):
        self.assertIs(is_kind(to([num(k) for k in range(298)], SOME)), True)
        self.assertIs(is_kind(("way", tuple(num(k) for k in range(297, -1, -1)), SOME)), False)

    def test_200_within_one_another(self):
        for thing in (5, "some", None, (), SOME):
            for around in (lambda t: (t,), lambda t: [t], lambda t: (t, t)[:1], left, lambda t: ("way", (t,), SOME)):
                self.assertIs(is_kind(nested(199, around, thing)), thing == SOME and around(SOME)[0] in ("left", "way"))
        deep = nested(199, lambda t: [t], 1)
        for thing in (("is", deep), ("way", deep, ONE), ("way", (deep,), ONE), (deep, 1), ("both", (deep,), ONE)):
            self.assertIs(is_kind(thing), False)

    def test_20000_in_all(self):
        self.assertIs(is_kind(("way", tuple(num(k) for k in range(6000)), SOME)), True)
        self.assertIs(is_kind(("way", tuple(num(k % 5999) for k in range(6000)), SOME)), False)
        self.assertIs(is_kind(tuple(range(20000))), False)
        self.assertIs(is_kind(("way", tuple(range(19000)), SOME)), False)
        wide = nested(90, lambda k: ("way", tuple([num(j) for j in range(60)] + [k]), SOME), SOME)
        self.assertIs(is_kind(wide), True)

    def test_what_is_asked_of_stays(self):
        thing = ["way", [ONE], ("left", [1], (True, None))]
        before = copy.deepcopy(thing)
        for _ in range(2):
            self.assertIs(is_kind(thing), False)
            self.assertIs(is_kind(("way", (ONE,), thing)), False)
        self.assertEqual(thing, before)


class OfAnswerTest(unittest.TestCase):
    def test_each_form(self):
        for kind in (ONE, SOME, both(ONE, SOME), both(both(ONE, ONE), SOME)):
            self.assertIs(of_answer(kind), True, kind)
        for kind in (left(ONE), right(both(ONE, ONE)), to([], ONE), to([SOME], both(ONE, ONE))):
            self.assertIs(of_answer(kind), False, kind)

    def test_kind_size(self):
        for kind, many in ((ONE, 1), (num(-(10 ** 11)), 1), (SOME, 1), (both(ONE, TWO), 3), (both(SOME, both(ONE, TWO)), 5),
                           (both(both(SOME, SOME), both(ONE, TWO)), 7)):
            self.assertEqual(kind_size(kind), many)


class AnswerKindTest(unittest.TestCase):
    def test_answers(self):
        for answer, kind in ((whole(0), num(0)), (whole(-7), num(-7)), (way(name(0)), SOME),
                             (way(plus(whole(1), whole(2))), SOME), (pair(whole(1), whole(2)), both(ONE, TWO)),
                             (pair(way(name(0)), whole(2)), both(SOME, TWO)),
                             (pair(pair(whole(1), way(whole(1))), pair(whole(2), whole(3))),
                              both(both(ONE, SOME), both(TWO, num(3)))),
                             (pair(whole(1), pair(whole(2), whole(3))), both(ONE, both(TWO, num(3))))):
            self.assertEqual(answer_kind(answer), kind)
            self.assertIs(is_kind(answer_kind(answer)), True)
            self.assertIs(of_answer(answer_kind(answer)), True)
            self.assertEqual(kind_size(answer_kind(answer)), size(answer))

    def test_what_was_told_whatever_its_size(self):
        for deep in (pair(pair(name(0), whole(1)), whole(2)), pair(whole(1), pair(way(name(0)), name(0)))):
            for _ in range(11):
                deep = put_in(deep, deep)
            kind = answer_kind(put_in(deep, whole(5)))
            self.assertIs(is_kind(kind), True)
            self.assertIs(of_answer(kind), True)
            self.assertEqual(kind_size(kind), 2 ** 13 + 1)
            self.assertIs(is_kind(both(kind, left(ONE))), False)
            other = answer_kind(put_in(deep, whole(6)))
            self.assertIs(is_kind(("way", (kind, other), kind)), True)
            self.assertIs(is_kind(("way", (other, kind), kind)), False)
            self.assertTrue(same(kind, answer_kind(put_in(deep, whole(5)))))


class FlatTest(unittest.TestCase):
    def test_sorted_as_python_sorts_tuples(self):
        kinds = small_kinds(1) + [kind for kind, text in KINDS] + small_kinds(2)[::53]
        self.assertEqual(sorted(kinds, key=flat), sorted(kinds))
        few = kinds[::3]
        for one, other in itertools.product(few[:150], few[::5]):
            self.assertIs(flat(one) < flat(other), one < other)
            self.assertIs(flat(one) == flat(other), one == other)


if __name__ == "__main__":
    unittest.main()
