import unittest

from kindbags.names import open_names
from kindbags.slips import Slip

from samples import first, give, look, name, pair, plus, second, small_programs, way, whole


def plain_back(program, backs, ways=0):
    """A slip read back as the document says it: each open name is what its slip is, read back."""
    if program[0] == "name":
        return backs[program[1] - ways] if program[1] >= ways else program
    if program[0] == "whole":
        return program
    below = ways + 1 if program[0] == "way" else ways
    return (program[0],) + tuple(plain_back(one, backs, below) for one in program[1:])


class SlipTest(unittest.TestCase):
    def test_closed_ones(self):
        for program in (whole(3), way(name(0)), pair(whole(1), way(way(name(1)))), give(way(name(0)), whole(2))):
            self.assertEqual(Slip(program, []).back(), program)
            self.assertEqual(Slip(program, ()).back(), program)
            self.assertEqual(Slip(program, [Slip(whole(9), [])]).back(), program)

    def test_a_name_alone(self):
        one, other = Slip(whole(1), []), Slip(way(name(0)), [])
        self.assertEqual(Slip(name(0), [one]).back(), whole(1))
        self.assertEqual(Slip(name(0), [one, other]).back(), whole(1))
        self.assertEqual(Slip(name(1), [one, other]).back(), way(name(0)))

    def test_under_ways(self):
        one, other = Slip(whole(1), []), Slip(way(name(0)), [])
        self.assertEqual(Slip(way(name(0)), [one]).back(), way(name(0)))
        self.assertEqual(Slip(way(name(1)), [one]).back(), way(whole(1)))
        self.assertEqual(Slip(way(way(pair(name(2), pair(name(3), pair(name(1), name(0)))))), [one, other]).back(),
                         way(way(pair(whole(1), pair(way(name(0)), pair(name(1), name(0)))))))
        self.assertEqual(Slip(pair(name(0), way(pair(name(1), name(0)))), [other]).back(),
                         pair(way(name(0)), way(pair(way(name(0)), name(0)))))

    def test_each_word(self):
        one, other = Slip(whole(1), []), Slip(whole(2), [])
        a, b = name(0), name(1)
        c, d = whole(1), whole(2)
        for open_one, closed in ((give(a, b), give(c, d)), (pair(b, a), pair(d, c)), (first(b), first(d)),
                                 (second(a), second(c)), (plus(a, a), plus(c, c)), (look(a, b, a), look(c, d, c)),
                                 (way(b), way(c)), (whole(7), whole(7)), (a, c)):
            self.assertEqual(Slip(open_one, [one, other]).back(), closed)

    def test_slips_of_slips(self):
        one = Slip(whole(5), ())
        two = Slip(way(plus(name(0), name(1))), [one])
        three = Slip(give(name(0), name(1)), (two, one))
        self.assertEqual(two.back(), way(plus(name(0), whole(5))))
        self.assertEqual(three.back(), give(way(plus(name(0), whole(5))), whole(5)))
        self.assertEqual(Slip(pair(name(2), pair(name(1), name(0))), [one, two, three]).back(),
                         pair(three.back(), pair(two.back(), one.back())))

    def test_one_slip_twice_in_a_row(self):
        one = Slip(first(name(0)), [Slip(whole(3), [])])
        self.assertEqual(Slip(pair(name(0), name(1)), [one, one]).back(), pair(first(whole(3)), first(whole(3))))
        self.assertEqual(Slip(pair(name(1), pair(name(0), name(1))), (one, one)).back(),
                         pair(first(whole(3)), pair(first(whole(3)), first(whole(3)))))

    def test_a_row_of_slips_each_of_the_one_ahead(self):
        slip = Slip(whole(3), [])
        for _ in range(20000):
            slip = Slip(name(0), [slip])
        self.assertEqual(slip.back(), whole(3))
        slip = Slip(whole(0), [])
        wanted = whole(0)
        for k in range(50):
            slip = Slip(plus(name(0), whole(k)), [slip, slip])
            wanted = plus(wanted, whole(k))
        self.assertEqual(slip.back(), wanted)

    def test_what_isnt_named_isnt_read(self):
        slip = Slip(whole(1), [])
        for _ in range(200):
            slip = Slip(pair(name(0), name(1)), [slip, slip])
        self.assertEqual(Slip(name(1), [slip, Slip(whole(4), [])]).back(), whole(4))
        self.assertEqual(Slip(whole(2), [slip]).back(), whole(2))

    def test_many_uses_of_one_slip(self):
        # Each slip twice, 400 deep, but each time through names alone.
        slip = Slip(whole(1), [])
        for _ in range(400):
            slip = Slip(give(way(whole(0)), name(0)), [Slip(name(1), [slip, slip])])
        told = slip.back()
        for _ in range(400):
            self.assertEqual(told[:2], ("give", way(whole(0))))
            told = told[2]
        self.assertEqual(told, whole(1))

    def test_small_ones(self):
        row = [Slip(whole(7), []), Slip(way(pair(name(0), name(1))), [Slip(whole(8), [])])]
        backs = [whole(7), way(pair(name(0), whole(8)))]
        for program in small_programs(2, [name(0), name(1), whole(0)]):
            told = Slip(program, row).back()
            self.assertEqual(told, plain_back(program, backs))
            self.assertEqual(open_names(told), [])

    def test_a_list_that_is_changed_later_changes_nothing(self):
        row = [Slip(whole(1), []), Slip(whole(2), [])]
        slip = Slip(pair(name(0), name(1)), row)
        later = Slip(name(1), row)
        row[0] = Slip(whole(9), [])
        self.assertEqual(slip.back(), pair(whole(1), whole(2)))
        row.clear()
        self.assertEqual(slip.back(), pair(whole(1), whole(2)))
        self.assertEqual(later.back(), whole(2))

    def test_what_is_handed_in_stays(self):
        one, other = Slip(whole(1), []), Slip(whole(2), [])
        row = [one, other]
        slip = Slip(pair(name(0), name(1)), row)
        for _ in range(2):
            self.assertEqual(slip.back(), pair(whole(1), whole(2)))
        self.assertEqual(len(row), 2)
        self.assertIs(row[0], one)
        self.assertIs(row[1], other)
        self.assertEqual((one.back(), other.back()), (whole(1), whole(2)))


if __name__ == "__main__":
    unittest.main()
