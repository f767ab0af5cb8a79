import copy
import itertools
import unittest

from kindbags.bags import added, bag_of, beneath, books_added
from kindbags.kinds import answer_kind, is_kind
from kindbags.names import put_in

from samples import KINDS, SOME, both, left, name, num, pair, right, same, small_kinds, to, whole

ONE, TWO, THREE = num(1), num(2), num(3)


class BagOfTest(unittest.TestCase):
    def test_no_kinds(self):
        self.assertEqual(bag_of([]), ())
        self.assertEqual(bag_of(()), ())

    def test_each_as_often_as_it_is_there(self):
        self.assertEqual(bag_of([ONE]), (ONE,))
        self.assertEqual(bag_of([TWO, ONE, TWO, ONE, SOME]), (ONE, ONE, TWO, TWO, SOME))
        self.assertEqual(bag_of((SOME, SOME, SOME)), (SOME, SOME, SOME))

    def test_in_order(self):
        wanted = (both(ONE, ONE), both(SOME, SOME), num(-5), num(2), num(10), left(num(3)), left(SOME), right(ONE), SOME,
                  to([], SOME), to([ONE], ONE), to([ONE, ONE], num(0)), to([TWO], num(0)))
        self.assertEqual(tuple(sorted(wanted)), wanted)
        self.assertEqual(bag_of(list(reversed(wanted))), wanted)
        self.assertEqual(bag_of(wanted[5:] + wanted[:5]), wanted)
        self.assertEqual(bag_of(wanted[::2] + wanted[1::2]), wanted)

    def test_as_python_sorts_tuples(self):
        kinds = small_kinds(1) + [kind for kind, text in KINDS]
        self.assertEqual(bag_of(kinds), tuple(sorted(kinds)))
        for some in itertools.product(kinds[::9], repeat=3):
            self.assertEqual(bag_of(some), tuple(sorted(some)))
            self.assertIs(is_kind(("way", bag_of(some), SOME)), True)

    def test_what_was_told_whatever_its_size(self):
        deep = pair(whole(1), pair(name(0), whole(2)))
        for _ in range(11):
            deep = put_in(deep, deep)
        one, other = answer_kind(put_in(deep, whole(5))), answer_kind(put_in(deep, whole(7)))
        for told in (bag_of([other, one, other]), added((other,), (one, other)),
                     books_added([{3: (other,)}, {3: (one, other)}])[3]):
            self.assertEqual(len(told), 3)
            self.assertTrue(same(told[0], one))
            self.assertTrue(same(told[1], other))
            self.assertTrue(same(told[2], other))

    def test_what_is_handed_in_stays(self):
        kinds = [TWO, ONE]
        told = bag_of(kinds)
        kinds.append(SOME)
        self.assertEqual(told, (ONE, TWO))
        self.assertEqual(kinds, [TWO, ONE, SOME])
        self.assertIs(type(told), tuple)


class AddedTest(unittest.TestCase):
    def test_bags(self):
        self.assertEqual(added((), ()), ())
        self.assertEqual(added((ONE,), ()), (ONE,))
        self.assertEqual(added((), (ONE,)), (ONE,))
        self.assertEqual(added((ONE,), (ONE,)), (ONE, ONE))
        self.assertEqual(added((ONE, THREE), (TWO, THREE)), (ONE, TWO, THREE, THREE))
        self.assertEqual(added((SOME,), (both(ONE, ONE), ONE)), (both(ONE, ONE), ONE, SOME))


class BooksTest(unittest.TestCase):
    def test_added(self):
        self.assertEqual(books_added([]), {})
        self.assertEqual(books_added([{}]), {})
        self.assertEqual(books_added([{}, {}]), {})
        self.assertEqual(books_added([{0: (ONE,)}, {}]), {0: (ONE,)})
        self.assertEqual(books_added([{0: (ONE,)}, {1: (TWO,)}]), {0: (ONE,), 1: (TWO,)})
        self.assertEqual(books_added([{0: (TWO,), 3: (SOME,)}, {0: (ONE, TWO), 7: (ONE,)}, {3: (ONE,), 0: (num(0),)}]),
                         {0: (num(0), ONE, TWO, TWO), 3: (ONE, SOME), 7: (ONE,)})

    def test_beneath(self):
        self.assertEqual(beneath({}), ((), {}))
        self.assertEqual(beneath({0: (ONE, ONE)}), ((ONE, ONE), {}))
        self.assertEqual(beneath({1: (ONE,)}), ((), {0: (ONE,)}))
        self.assertEqual(beneath({0: (ONE,), 1: (TWO,), 5: (SOME, SOME)}), ((ONE,), {0: (TWO,), 4: (SOME, SOME)}))
        self.assertEqual(beneath({5: (SOME,), 1: (TWO,), 0: (ONE,)}), ((ONE,), {0: (TWO,), 4: (SOME,)}))
        self.assertIs(type(beneath({})), tuple)

    def test_what_is_handed_in_stays_and_what_is_told_is_the_askers_own(self):
        books = [{0: (ONE,), 2: (TWO,)}, {0: (SOME,)}]
        before = copy.deepcopy(books)
        for _ in range(2):
            told = books_added(books)
            self.assertEqual(told, {0: (ONE, SOME), 2: (TWO,)})
            told[0] = ()
            told[9] = (ONE,)
            self.assertEqual(books, before)
            bag, below = beneath(books[0])
            self.assertEqual((bag, below), ((ONE,), {1: (TWO,)}))
            below.clear()
            self.assertEqual(books, before)
        alone = books_added([books[0]])
        alone.clear()
        self.assertEqual(books, before)
        open_ones = {1: (ONE,)}
        below = beneath(open_ones)[1]
        open_ones[4] = (TWO,)
        self.assertEqual(below, {0: (ONE,)})


if __name__ == "__main__":
    unittest.main()
