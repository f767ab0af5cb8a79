import itertools
import unittest

from kindbags.errors import BagError, NoName, NoText
from kindbags.names import open_names, put_in
from kindbags.reader import read
from kindbags.running import run
from kindbags.words import is_figures, is_name, words_of
from kindbags.writer import shown

from samples import chain, first, give, look, name, pair, plus, same, second, small_programs, way, whole

# Texts as they are written, and their programs.
WRITTEN = [
    ("0", whole(0)),
    ("-7", whole(-7)),
    ("999999999", whole(999999999)),
    ("(way a a)", way(name(0))),
    ("(way a 5)", way(whole(5))),
    ("(way a (way b a))", way(way(name(1)))),
    ("(way a (way b b))", way(way(name(0)))),
    ("(give (way a a) 3)", give(way(name(0)), whole(3))),
    ("(pair 1 2)", pair(whole(1), whole(2))),
    ("(first (pair 1 2))", first(pair(whole(1), whole(2)))),
    ("(second (pair 1 2))", second(pair(whole(1), whole(2)))),
    ("(plus 1 -2)", plus(whole(1), whole(-2))),
    ("(look 0 1 2)", look(whole(0), whole(1), whole(2))),
    ("(pair (way a a) (way a (way b (way c (look a b c)))))",
     pair(way(name(0)), way(way(way(look(name(2), name(1), name(0))))))),
    ("(way a (give (way b (plus a b)) (way b (first b))))",
     way(give(way(plus(name(1), name(0))), way(first(name(0)))))),
]

CLOSED = [program for program in small_programs(2, [name(0), name(1), whole(-3)]) if not open_names(program)]
CLOSED += [way(program) for program in small_programs(2, [name(0), whole(12)])]


def no_text(text):
    try:
        read(text)
    except NoText as refusal:
        return refusal.at
    except NoName:
        return None
    return None


def no_name(text):
    try:
        read(text)
    except NoName as refusal:
        return refusal.name
    return None


class ShownTest(unittest.TestCase):
    def test_written(self):
        for text, program in WRITTEN:
            self.assertEqual(shown(program), text)

    def test_more_than_26_ways_around_one_another(self):
        row = list("abcdefghijklmnopqrstuvwxyz") + ["aa", "ab", "ac", "ad"]
        program = chain(["way"] * 30, give(name(0), pair(name(29), plus(name(3), name(4)))))
        text = "".join(f"(way {x} " for x in row) + "(give ad (pair a (plus aa z)))" + ")" * 30
        self.assertEqual(shown(program), text)
        self.assertEqual(read(text), program)

    def test_the_name_hangs_on_the_ways_around_alone(self):
        self.assertEqual(shown(pair(way(name(0)), pair(way(name(0)), way(way(name(0)))))),
                         "(pair (way a a) (pair (way a a) (way a (way b b))))")

    def test_a_whole_of_more_than_nine_figures_is_written_and_not_read(self):
        word, program, rules = run(read("(plus 999999999 1)"), 400)
        self.assertEqual((word, rules), ("answer", 1))
        self.assertEqual(shown(program), "1000000000")
        self.assertEqual(shown(pair(program, whole(-(10 ** 20)))), "(pair 1000000000 -100000000000000000000)")
        with self.assertRaises(NoText) as taken:
            read(shown(pair(whole(1), program)))
        self.assertEqual(taken.exception.at, 3)

    def test_read_back(self):
        for program in CLOSED:
            self.assertEqual(read(shown(program)), program)


class ReadTest(unittest.TestCase):
    def test_written(self):
        for text, program in WRITTEN:
            self.assertEqual(read(text), program)

    def test_any_name_does(self):
        self.assertEqual(read("(way abcdefgh abcdefgh)"), way(name(0)))
        self.assertEqual(read("(way name (way whole (pair name whole)))"), way(way(pair(name(1), name(0)))))
        self.assertEqual(read("(way ways (way wa (give ways wa)))"), way(way(give(name(1), name(0)))))

    def test_the_nearest_way_of_the_name(self):
        self.assertEqual(read("(way x (way x x))"), way(way(name(0))))
        self.assertEqual(read("(way x (pair (way x x) x))"), way(pair(way(name(0)), name(0))))
        self.assertEqual(read("(way x (way y (way x (look x y x))))"), way(way(way(look(name(0), name(1), name(0))))))
        self.assertEqual(read("(way x (way y (pair (way x (pair x y)) x)))"),
                         way(way(pair(way(pair(name(0), name(1))), name(1)))))

    def test_blanks_and_line_feeds(self):
        program = give(way(name(0)), whole(3))
        for text in ("(give(way x x)3)", "  (  give\n(way\n\nx   x )\n 3 ) \n", "\n(give (way x x) 3)\n",
                     "(\ngive\n(\nway\nx\nx\n)\n3\n)"):
            self.assertEqual(read(text), program)
        self.assertEqual(read("  12 \n"), whole(12))

    def test_figures(self):
        self.assertEqual(read("123456789"), whole(123456789))
        self.assertEqual(read("-123456789"), whole(-123456789))
        self.assertEqual(read("0"), whole(0))
        for text in ("1234567890", "-1234567890", "-0", "+1", "00", "01", "-01", "1.5", "0x1", "1a", "--1", "-"):
            self.assertEqual(no_text(text), 0, text)
            self.assertEqual(no_text(f"(pair 1 {text})"), 3, text)

    def test_the_end_comes_too_early(self):
        for text in ("", " ", "\n \n", "(", "(way", "(way x", "(way x x", "(give 1", "(give 1 2", "(look 1 2",
                     "(pair (pair 1 2) (first 3)", "(look (way x x) 2 3"):
            self.assertEqual(no_text(text), len(words_of(text)), text)

    def test_a_word_with_which_none_goes_on(self):
        for text, at in ((")", 0), ("way", 0), ("give", 0), ("()", 1), ("((", 1), ("(1", 1), ("(x", 1), ("(name", 1),
                         ("(whole 1)", 1), ("(ways", 1), ("(way)", 2), ("(way 1", 2), ("(way (", 2), ("(way way", 2),
                         ("(way give 1)", 2), ("(way abcdefghi 1)", 2), ("(way X 1)", 2), ("(way x)", 3),
                         ("(way x 1 2)", 4), ("(way x x", 4), ("(first 1 2)", 3), ("(first)", 2), ("(second 1 2)", 3),
                         ("(give 1)", 3), ("(give 1 2 3)", 4), ("(pair 1 2 3)", 4), ("(plus 1)", 3),
                         ("(look 1 2)", 4), ("(look 1 2 3 4)", 5), ("1 2", 1), ("1 )", 1), ("x (", 1), ("(pair 1 2))", 5),
                         ("(pair 1 2) 3", 5), ("(pair 1 2) (", 5), ("(pair pair 1)", 2), ("(pair 1 way)", 3),
                         ("(pair 1 abcdefghi)", 3), ("(pair 1 X)", 3), ("(pair 1 #)", 3), ("(pair 1,2)", 2),
                         ("[pair 1 2]", 0), ("(Pair 1 2)", 1), ("~", 0)):
            self.assertEqual(no_text(text), at, text)

    def test_text_ahead_of_names(self):
        self.assertEqual(no_text("(pair x"), 3)
        self.assertEqual(no_text("(pair x y z)"), 4)
        self.assertEqual(no_text("x y"), 1)
        self.assertEqual(no_text("(pair (way x y) 00)"), 7)

    def test_names_that_no_way_around_has(self):
        for text, missing in (("x", "x"), ("abcdefgh", "abcdefgh"), ("(pair x y)", "x"), ("(way x y)", "y"),
                              ("(give (way x x) x)", "x"), ("(give x (way x x))", "x"), ("(pair (way x x) (pair z x))", "z"),
                              ("(way x (pair (way y (pair x y)) y))", "y"), ("(look 1 (way a a) (plus b a))", "b"),
                              ("(way x (way y (pair (way x z) q)))", "z"), ("(way a (pair b (way b a)))", "b")):
            self.assertEqual(no_name(text), missing, text)

    def test_every_row_of_few_words(self):
        # Looked at beside all beginnings of texts, which are counted up by how a text is made.
        vocabulary = ("(", ")", "way", "pair", "x", "1")
        begun, ended = beginnings(6)
        for many in range(6):
            for words in itertools.product(vocabulary, repeat=many):
                wanted = None if words in ended else many
                for at in range(many, 0, -1):
                    if words[:at] not in begun and words[:at] not in ended:
                        wanted = at - 1
                self.assertEqual(no_text(" ".join(words)), wanted, words)

    def test_refusals_are_bag_errors(self):
        for text in ("", "x", "(pair"):
            with self.assertRaises(BagError):
                read(text)

    def test_asked_again(self):
        for _ in range(2):
            self.assertEqual(read("(way x (way y x))"), way(way(name(1))))
            self.assertEqual(no_name("(pair (way x x) x)"), "x")
            self.assertEqual(no_text("(way x"), 3)


def beginnings(most):
    """All rows of at most so many words, of few words, that begin a program's text, and that are one."""
    begun, ended = {()}, {("x",), ("1",)}

    def follow(rows, more):
        return {row + other for row in rows for other in more if len(row + other) <= most}

    for _ in range(most):
        open_pair, open_way = ("(", "pair"), ("(", "way", "x")
        whole_ones = set(ended)
        one_in = follow({open_pair}, whole_ones)
        two_in = follow(one_in, whole_ones)
        way_in = follow({open_way}, whole_ones)
        ended |= follow(two_in | way_in, {(")",)})
        stems = {open_pair, open_way} | one_in
        begun |= {("(",), ("(", "way")} | stems | two_in | way_in | follow(stems, begun)
    return begun, ended


class WhateverTheSizeTest(unittest.TestCase):
    def test_deep_ones(self):
        program = chain(["way"] * 40, pair(name(39), name(40)))
        for _ in range(6):
            program = put_in(program, program)
        program = way(program)
        text = shown(program)
        self.assertEqual(text.count("(way "), 40 * 2 ** 6 + 1)
        self.assertTrue(all(is_name(word) or is_figures(word) for word in words_of(text)
                            if word not in ("(", ")", "way", "pair")))
        self.assertTrue(same(read(text), program))


if __name__ == "__main__":
    unittest.main()
