import itertools
import unittest

from kindbags.errors import BagError, NoText
from kindbags.papertexts import in_order, read_paper, show_paper
from kindbags.reader import read

from plain import plain_in_order, plain_inners, plain_paper
from samples import ANSWERING, KINDS, SOME, both, left, num, right, same, to

DOT, TILDE = ("whole",), ("some",)
ONE = ("name", num(1))

# Texts as they are written, and their papers.
WRITTEN = [
    (".", DOT),
    ("~", TILDE),
    ("#1", ONE),
    ("#-7", ("name", num(-7))),
    ("#~", ("name", SOME)),
    ("#(1,)", ("name", left(num(1)))),
    ("#(,~)", ("name", right(SOME))),
    ("#(1,2)", ("name", both(num(1), num(2)))),
    ("#[:1]", ("name", to([], num(1)))),
    ("#[1 1 (2,):(,[~:~])]", ("name", to([num(1), num(1), left(num(2))], right(to([SOME], SOME))))),
    ("(way #1)", ("way", ONE)),
    ("(way ~)", ("way", TILDE)),
    ("(left .)", ("left", DOT)),
    ("(right ~)", ("right", TILDE)),
    ("(both . ~)", ("both", DOT, TILDE)),
    ("(first (left .))", ("first", ("left", DOT))),
    ("(second (right #1))", ("second", ("right", ONE))),
    ("(plus . #1)", ("plus", DOT, ONE)),
    ("(look . (plus #1 .))", ("look", DOT, ("plus", ONE, DOT))),
    ("(give (way .))", ("give", ("way", DOT), ())),
    ("(give (way #1) .)", ("give", ("way", ONE), (DOT,))),
    ("(give (way (plus #1 #2)) #2 #1)", ("give", ("way", ("plus", ONE, ("name", num(2)))), (("name", num(2)), ONE))),
    ("(give #[1 2:3] . . . (first #(1,)))", ("give", ("name", to([num(1), num(2)], num(3))),
                                            (DOT, DOT, DOT, ("first", ("name", left(num(1))))))),
    ("(give (give #[:[:1]]) (give #[~:1] ~))", ("give", ("give", ("name", to([], to([], num(1)))), ()),
                                                (("give", ("name", to([SOME], num(1))), (TILDE,)),))),
    ("(left #(1,))", ("left", ("name", left(num(1))))),
    ("(both #1 #(,[1 2:3]))", ("both", ONE, ("name", right(to([num(1), num(2)], num(3)))))),
    ("(plus #(1,) #(,1))", ("plus", ("name", left(num(1))), ("name", right(num(1))))),
    # Papers of no program.
    ("(first ~)", ("first", TILDE)),
    ("(plus ~ ~)", ("plus", TILDE, TILDE)),
    ("(both #(1,) (way .))", ("both", ("name", left(num(1))), ("way", DOT))),
    ("(give . ~ .)", ("give", DOT, (TILDE, DOT))),
    ("(look ~ (left ~))", ("look", TILDE, ("left", TILDE))),
]

# Papers, and how they are when they are put in order.
ORDERED = [
    (DOT, DOT),
    (("give", DOT, ()), ("give", DOT, ())),
    (("give", DOT, (TILDE,)), ("give", DOT, (TILDE,))),
    (("give", DOT, (DOT, TILDE, ONE)), ("give", DOT, (ONE, TILDE, DOT))),
    (("give", DOT, (("name", num(10)), ("name", num(9)), ("name", num(-1)))),
     ("give", DOT, (("name", num(-1)), ("name", num(9)), ("name", num(10))))),
    (("plus", DOT, ONE), ("plus", DOT, ONE)),
    (("both", TILDE, ONE), ("both", TILDE, ONE)),
    (("way", ("give", DOT, (TILDE, ONE))), ("way", ("give", DOT, (ONE, TILDE)))),
    (("give", ("give", DOT, (TILDE, ONE)), ()), ("give", ("give", DOT, (ONE, TILDE)), ())),
    (("look", ("give", DOT, (TILDE, ONE)), ("give", DOT, (DOT, ONE))),
     ("look", ("give", DOT, (ONE, TILDE)), ("give", DOT, (ONE, DOT)))),
    # Those within are put in order first: else the second one here would stand behind the first.
    (("give", DOT, (("give", DOT, (ONE, DOT)), ("give", DOT, (TILDE, ONE)))),
     ("give", DOT, (("give", DOT, (ONE, TILDE)), ("give", DOT, (ONE, DOT))))),
    (("give", DOT, (("give", DOT, (ONE, ONE)), ("give", DOT, (ONE,)), ("give", DOT, ()))),
     ("give", DOT, (("give", DOT, ()), ("give", DOT, (ONE,)), ("give", DOT, (ONE, ONE))))),
    (("first", ("left", ("give", DOT, (("right", ("give", DOT, (TILDE, ONE))), ("left", DOT))))),
     ("first", ("left", ("give", DOT, (("left", DOT), ("right", ("give", DOT, (ONE, TILDE)))))))),
]


def plain_shown(paper):
    """A paper's text as the document says it, kinds being among those of the samples."""
    if paper[0] == "name":
        return "#" + dict(KINDS)[paper[1]]
    if paper in (DOT, TILDE):
        return {DOT: ".", TILDE: "~"}[paper]
    return "(" + " ".join([paper[0]] + [plain_shown(one) for one in plain_inners(paper)]) + ")"


def refusal_of(text):
    try:
        read_paper(text)
    except NoText as refusal:
        return refusal.at
    return None


def small_papers():
    leaves = [DOT, TILDE, ONE, ("name", left(num(1)))]
    found = list(leaves)
    for _ in range(2):
        inner = found[::3] + leaves
        found = [(word, p) for word in ("way", "left", "right", "first", "second") for p in inner]
        found += [(word, p, q) for word in ("both", "plus", "look") for p, q in itertools.product(inner, leaves)]
        found += [("give", p, ps) for p in inner for ps in [(), (DOT,), (TILDE, ONE), (DOT, p), (p, DOT, TILDE)]]
    return found


class ShowPaperTest(unittest.TestCase):
    def test_written(self):
        for text, paper in WRITTEN:
            self.assertEqual(show_paper(paper), text)

    def test_each_kind(self):
        for kind, text in KINDS:
            self.assertEqual(show_paper(("name", kind)), "#" + text)
            self.assertEqual(show_paper(("give", ("name", kind), (DOT, ("name", kind)))), f"(give #{text} . #{text})")

    def test_small_ones(self):
        for paper in small_papers():
            self.assertEqual(show_paper(paper), plain_shown(paper))


class ReadPaperTest(unittest.TestCase):
    def test_written(self):
        for text, paper in WRITTEN:
            self.assertEqual(read_paper(text), paper)

    def test_each_kind(self):
        for kind, text in KINDS:
            self.assertEqual(read_paper("#" + text), ("name", kind))
            self.assertEqual(read_paper(f"(give #{text} . #{text})"), ("give", ("name", kind), (DOT, ("name", kind))))

    def test_small_ones(self):
        for paper in small_papers():
            self.assertEqual(read_paper(show_paper(paper)), paper)

    def test_papers_of_runs(self):
        for text in ANSWERING:
            paper = plain_paper(read(text))
            self.assertEqual(read_paper(show_paper(paper)), paper)

    def test_the_order_is_kept(self):
        self.assertEqual(read_paper("(give . . ~ #1)"), ("give", DOT, (DOT, TILDE, ONE)))

    def test_60_brackets(self):
        text = "(first " * 60 + "." + ")" * 60
        self.assertEqual(show_paper(read_paper(text)), text)
        text = "(first " * 30 + "#" + "(" * 30 + "1" + ",)" * 30 + ")" * 30
        self.assertEqual(show_paper(read_paper(text)), text)

    def test_blanks_more_or_fewer(self):
        for text in ("", " ", "\n", " .", ". ", "~ ", " #1", "#1 ", "# 1", "( left .)", "(left  .)", "(left . )", "(left.)",
                     "(left~)", "(left#1)", "(left(left .))", "(left .) ", " (left .)", "(both . .) ", "(both .  .)",
                     "(both  . .)", "(both ..)", "(both .~)", "(both (left .)(left .))", "(both (left .).)", "(both #1#2)",
                     "(both .#2)", "(both . . )", "(left\n.)", "(left .\n)", "\n.", ".\n", "(give )", "(give . )",
                     "(give .  .)", "(give .. .)", "#[1  2:3]", "#[1 2 :3]", "#( 1,)", "(give #[1:2]. .)", "(give #1 ~.)",
                     "( )", "(  )"):
            self.assertEqual(refusal_of(text), 0, text)

    def test_too_many_or_too_few_papers(self):
        for word, many in (("way", 1), ("left", 1), ("right", 1), ("first", 1), ("second", 1), ("both", 2), ("plus", 2),
                           ("look", 2)):
            for count in range(5):
                text = "(" + " ".join([word] + ["."] * count) + ")"
                self.assertEqual(refusal_of(text), None if count == many else 0, text)
                self.assertEqual(refusal_of(f"(give . {text})"), None if count == many else 0, text)
        self.assertEqual(refusal_of("(give)"), 0)
        for count in range(1, 6):
            self.assertIsNone(refusal_of("(give" + " ." * count + ")"))

    def test_unknown_words(self):
        for text in ("(some)", "(whole)", "(name)", "(name #1)", "(name 1)", "(some .)", "(whole .)", "(name .)", "(hole .)",
                     "(pair . .)", "(Left .)", "(lefts .)", "(lef .)", "(left, .)", "(1 .)", "(. .)", "(~ .)", "(# .)",
                     "(#1 .)", "(#1)", "(.)", "(~)", "((left .))", "((left .) .)", "left", "some", "whole", "x", "1", "left .",
                     "left.", "(give x)", "(give 1)", "(give . give)", "(left 1)", "(left left)", "(left left .)", "(is 1)"):
            self.assertEqual(refusal_of(text), 0, text)

    def test_brackets(self):
        for text in ("(", ")", "()", ")(", "(left .", "left .)", "(left .))", "((left .)", "(left (left .)", "(both . (left .)",
                     "(both (left .) .", "[left .]", "(left .]", "[left .)", "{left .}", "(left .)(left .)", "(left .).",
                     ".(left .)", "..", "~~", "~.", ".~", "(left .) (left .)", ". .", "#1 #1", "#1#1", "#1.", ".#1",
                     "#(1,", "#1,)", "#(1,))", "(left #(1,)", "(left #(1,)))", "(left #[1:2)", "(left #[1:2)]", "#[:1]]",
                     "(left #[1:2]])", "#", "##1", "(left #)", "(left ##1)", "(left #.)", "#.", "#left", "#(left .)"):
            self.assertEqual(refusal_of(text), 0, text)

    def test_kinds_that_are_none(self):
        for kind in ("01", "-0", "+1", "1234567890123", "[2 1:1]", "[1]", "(1)", "((1,),1)", "(,)", "1~", "~1", "[ :1]",
                     "(1, 2)", "x", "-"):
            self.assertEqual(refusal_of("#" + kind), 0, kind)
            self.assertEqual(refusal_of(f"(plus #{kind} .)"), 0, kind)
            self.assertEqual(refusal_of(f"(plus . #{kind})"), 0, kind)

    def test_every_short_row(self):
        wanted = {plain_shown(paper): paper for papers in row_papers(7) for paper in papers}
        self.assertIn("(give . .)", wanted)
        self.assertIn("(left (left .))", wanted)
        for many in range(8):
            for row in itertools.product(("(give", "(both", "(left", " ", ".", ")"), repeat=many):
                text = "".join(row)
                try:
                    told = read_paper(text)
                except NoText as refusal:
                    self.assertEqual(refusal.at, 0)
                    told = None
                self.assertEqual(told, wanted.get(text), text)

    def test_one_sign_more_fewer_or_another(self):
        for text, paper in WRITTEN:
            changed = [text[:k] + text[k + 1:] for k in range(len(text))]
            for sign in "()[] .~#1,:-x\n":
                changed += [text[:k] + sign + text[k:] for k in range(len(text) + 1)]
                changed += [text[:k] + sign + text[k + 1:] for k in range(len(text))]
            for other in changed:
                try:
                    told = read_paper(other)
                except NoText:
                    continue
                self.assertEqual(show_paper(told), other)

    def test_refusals_are_bag_errors(self):
        with self.assertRaises(BagError):
            read_paper("(left")


def row_papers(most):
    """For each number up to this all papers whose texts have so many pieces, of those of the test above."""
    papers = [[], [DOT]]
    for many in range(2, most + 1):
        found = []
        for p in papers[max(many - 3, 0)]:
            found += [("left", p), ("give", p, ())]
        for one in range(1, many - 4):
            other = many - 4 - one
            for p, q in itertools.product(papers[one], papers[other]):
                found += [("both", p, q), ("give", p, (q,))]
        papers.append(found)
    return papers


class InOrderTest(unittest.TestCase):
    def test_papers(self):
        for paper, ordered in ORDERED:
            self.assertEqual(in_order(paper), ordered)
            self.assertEqual(in_order(ordered), ordered)
            self.assertEqual(plain_in_order(paper), ordered)

    def test_small_ones(self):
        for paper in small_papers():
            self.assertEqual(in_order(paper), plain_in_order(paper))
            around = ("give", paper, (paper, DOT, ("give", DOT, (TILDE, paper, ONE)), paper))
            self.assertEqual(in_order(around), plain_in_order(around))

    def test_whatever_stood_first(self):
        papers = [DOT, TILDE, ONE, ("name", left(num(0))), ("left", DOT), ("give", DOT, (ONE, TILDE))]
        wanted = in_order(("give", DOT, tuple(papers)))
        for row in itertools.permutations(papers):
            self.assertEqual(in_order(("give", DOT, row)), wanted)
        self.assertEqual(wanted[2], tuple(sorted(papers)))

    def test_what_is_handed_in_stays(self):
        paper = ("give", DOT, (DOT, TILDE))
        self.assertEqual(in_order(paper), ("give", DOT, (TILDE, DOT)))
        self.assertEqual(paper, ("give", DOT, (DOT, TILDE)))


class WhateverTheSizeTest(unittest.TestCase):
    def test_deep_ones(self):
        deep, text = ("give", DOT, (DOT, TILDE)), "(give . . ~)"
        for _ in range(2000):
            deep, text = ("first", ("left", deep)), "(first (left " + text + "))"
        self.assertEqual(show_paper(deep), text)
        self.assertTrue(same(read_paper(text), deep))
        other = in_order(deep)
        self.assertEqual(show_paper(other), text.replace(". ~", "~ ."))
        told = in_order(("give", DOT, (deep, DOT, other, deep)))
        for k in range(3):
            self.assertTrue(same(told[2][k], other))
        self.assertEqual(told[2][3], DOT)
        self.assertEqual(refusal_of(text + ")"), 0)


if __name__ == "__main__":
    unittest.main()
