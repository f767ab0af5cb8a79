import unittest

from kindbags.better import as_good
from kindbags.checker import looked
from kindbags.counts import look_ups_of, slips_of, steps_of
from kindbags.desk import answered
from kindbags.errors import BagError, NoData, NoName, NoPaper, NoRoom, NoRow, NoText
from kindbags.kindtexts import show_kind
from kindbags.papers import marks
from kindbags.papertexts import read_paper, show_paper
from kindbags.played import played
from kindbags.reader import read
from kindbags.running import run
from kindbags.turning import met, rule_places
from kindbags.uses import costs
from kindbags.writer import shown
from kindbags.written import paper_of

from plain import drawn_programs
from samples import ANSWERING, NO_ANSWER, give, many_lines, name, plus, sum_of, way, whole

TWICE = "(give (way x (plus x x)) (plus 1 2))"
LOOP = "(give (way x (give x x)) (way x (give x x)))"
GREAT = "(give (way x (give x x)) (way x (plus 1 (give x x))))"
NO_SPACE = "(give (give (way f (give f f)) (way f (way n (look n 0 (plus n (give (give f f) (plus n -1))))))) 5)"

ROWS = [
    # run
    ("run 7", "answer 0 1 7"),
    ("run -12", "answer 0 1 -12"),
    ("run " + TWICE, "answer 4 1 6"),
    ("run (pair (plus 1 2) (pair 3 (way x (plus x 1))))", "answer 1 5 (pair 3 (pair 3 (way a (plus a 1))))"),
    ("run (way other (way x (give other x)))", "answer 0 1 (way a (way b (give a b)))"),
    ("run (first 1)", "stuck 0"),
    ("run (plus (plus 1 2) (way x x))", "stuck 1"),
    ("run " + LOOP, "more 400"),
    ("run " + GREAT, "great 97"),
    ("run   \n7 \n", "answer 0 1 7"),
    ("run (plus(plus 1\n2)3)", "answer 2 1 6"),
    # Wholes of more than nine figures, to which a run may come.
    ("run (plus 999999999 1)", "answer 1 1 1000000000"),
    ("run (pair (plus -999999999 -999999999) 1)", "answer 1 3 (pair -1999999998 1)"),
    # paper
    ("paper 7", "."),
    ("paper (way x x)", "~"),
    ("paper (plus 1 2)", "(plus . .)"),
    ("paper " + TWICE, "(give (way (plus #3 #3)) (plus . .) (plus . .))"),
    ("paper (give (way p (plus (second p) (first p))) (pair 1 2))",
     "(give (way (plus (second #(,2)) (first #(1,)))) (left .) (right .))"),
    ("paper (give (way x x) (plus 999999999 1))", "(give (way #1000000000) (plus . .))"),
    ("paper (first 1)", "none"),
    ("paper " + LOOP, "none"),
    ("paper " + GREAT, "none"),
    # look
    ("look 7 | .", "7 0"),
    ("look (way x x) | ~", "~ 0"),
    ("look (way x x) | (way #[1 1:2])", "[[1 1:2]:[1 1:2]] 0"),
    ("look " + TWICE + " | (give (way (plus #3 #3)) (plus . .) (plus . .))", "6 4"),
    ("look (pair 1 (way x x)) | (both . ~)", "(1,~) 0"),
    ("look (pair 1 2) | (left .)", "(1,) 0"),
    ("look (plus 999999999 1) | (plus . .)", "1000000000 1"),
    ("look 7 | ~", "none"),
    ("look 7 | (plus . .)", "none"),
    ("look (give (way x x) 3) | (give (way #2) .)", "none"),
    ("look (first 1) | (first .)", "none"),
    ("look  7\n | .", "7 0"),
    # steps
    ("steps 7", "0 0 0 0"),
    ("steps (pair 1 2)", "3 0 0 0"),
    ("steps (plus 1 2)", "3 0 0 1"),
    ("steps " + TWICE, "13 1 2 4"),
    ("steps (first 1)", "none"),
    ("steps " + LOOP, "none"),
    ("steps " + GREAT, "none"),
    # saved
    ("saved 7", ""),
    ("saved (pair 1 (way x x))", ""),
    ("saved (plus 1 2)", "-:1"),
    ("saved " + TWICE, "-:1 1:2"),
    ("saved (way x (plus 1 2))", "0:0"),
    ("saved (give (way f (plus (give f 1) (give f 2))) (way x (plus x (plus 3 4))))", "-:1 1.0.1:2"),
    ("saved (pair (plus 1 2) (look 0 (plus 3 4) (first (pair 5 6))))", "0:1 1:1 1.1:1 1.2:0"),
    ("saved (first 1)", "none"),
    ("saved (pair (first 1) (plus 1 2))", "none"),
    ("saved " + LOOP, "none"),
    ("saved " + GREAT, "none"),
    # better
    ("better 7 | 7", "yes"),
    ("better 3 | (plus 1 2)", "yes"),
    ("better (plus 1 2) | 3", "more -"),
    ("better (pair (plus 1 2) 3) | (pair 3 (plus 1 2))", "more 1"),
    ("better (pair 3 (plus 1 2)) | (pair (plus 1 2) 3)", "more 2"),
    ("better (pair (pair 2 (plus 1 1)) 3) | (pair (pair (plus 1 1) 2) 3)", "more 12"),
    ("better (pair 3 (pair (plus 1 0) 2)) | (pair 3 (pair 1 (plus 1 1)))", "more 21"),
    ("better 1 | 2", "other -"),
    ("better 1 | (pair 1 2)", "other -"),
    ("better (pair 1 2) | (pair 1 3)", "other 2"),
    ("better (pair (pair 1 2) 5) | (pair (pair 1 3) 6)", "other 12"),
    ("better (plus 999999999 1) | (plus 1 999999999)", "yes"),
]

NO_ROWS = [
    "", " ", "  ", "run", "paper", "look", "better", "7", "run7", "run\n7", "\n", " run 7", "RUN 7", "Run 7", "runs 7",
    "run\n 7", "runpaper 7", "(run 7)", "first 7", "none 7", "| 7", " | ", "look|7 | .",
    # More or fewer partings.
    "look 7", "look 7 .", "look 7|.", "look 7 |.", "look 7| .", "look | .", "look |", "better 7", "better 7 7", "better 7 |",
    "better 7 || 7", "look 7\n|\n.",
    "look 7 | . | .", "look 7 | | | .", "better 7 | 7 | 7", "look  |  | ", "better 1 | 2 | 3 | 4",
    "run 7 | 7", "run  | ", "run 7 | ", "run  | 7", "paper 7 | .", "steps 7 | 7", "saved 7 | ", "saved  | 7 | ",
]

# Rows of which a text is none: the refusal, and its `at` or `name`.
NO_TEXTS = [
    ("run ", NoText, 0),
    ("run  ", NoText, 0),
    ("run (plus 1", NoText, 3),
    ("run 1 2", NoText, 1),
    ("run x", NoName, "x"),
    ("run (way x y)", NoName, "y"),
    ("run 1000000000", NoText, 0),
    ("run |", NoText, 0),
    ("run 7 |", NoText, 1),
    ("run 7|7", NoText, 0),
    ("run .", NoText, 0),
    ("paper (first)", NoText, 2),
    ("paper x", NoName, "x"),
    ("steps 01", NoText, 0),
    ("steps (way x (pair x y))", NoName, "y"),
    ("saved (plus 1 2 3)", NoText, 4),
    ("saved z", NoName, "z"),
    # Of two texts the first one's refusal.
    ("look  | .", NoText, 0),
    ("look 7 | ", NoText, 0),
    ("look  | ", NoText, 0),
    ("look (7 | .", NoText, 1),
    ("look x | .", NoName, "x"),
    ("look x | ..", NoName, "x"),
    ("look (plus 1 | ..", NoText, 3),
    ("look 7 | ..", NoText, 0),
    ("look 7 |  .", NoText, 0),
    ("look 7 | . ", NoText, 0),
    ("look 7 | (plus . )", NoText, 0),
    ("look 7 | #[2 1:1]", NoText, 0),
    ("look 7 | 7", NoText, 0),
    ("look 7 | #1000000000000", NoText, 0),
    ("look 7 | | ", NoText, 0),
    ("better x | y", NoName, "x"),
    ("better 7 | y", NoName, "y"),
    ("better (pair 1 | y", NoText, 3),
    ("better y | (pair 1", NoName, "y"),
    ("better 7 | (pair 1", NoText, 3),
    ("better  | ", NoText, 0),
    ("better 7 | ", NoText, 0),
    # Texts that are none come ahead of what else is refused.
    ("better (way x x) | (pair 1", NoText, 3),
    ("better (way x x) | y", NoName, "y"),
    ("better " + LOOP + " | y", NoName, "y"),
    ("better y | (way x x)", NoName, "y"),
    ("look " + NO_SPACE + " | ..", NoText, 0),
]


class DeskTest(unittest.TestCase):
    def test_by_hand(self):
        for row, wanted in ROWS:
            for _ in range(2):
                self.assertEqual(answered(row), wanted, row)
            self.assertIs(type(answered(row)), str)

    def test_no_rows(self):
        for row in NO_ROWS:
            with self.assertRaises(NoRow, msg=row):
                answered(row)
        with self.assertRaises(BagError):
            answered("7")

    def test_no_texts(self):
        for row, refusal, told in NO_TEXTS:
            with self.assertRaises(refusal, msg=row) as caught:
                answered(row)
            self.assertEqual(getattr(caught.exception, "at" if refusal is NoText else "name"), told, row)

    def test_no_data(self):
        for text in ("(way x x)", "(pair 1 (way x x))", "(first 1)", LOOP, GREAT):
            for row in ("better " + text + " | 7", "better 7 | " + text, "better " + text + " | " + text):
                with self.assertRaises(NoData):
                    answered(row)

    def test_no_room(self):
        for text in (NO_SPACE, shown(plus(whole(1), many_lines([2, 5, 5, 4], 6))),
                     shown(give(way(sum_of([name(0)] * 299)), whole(1)))):
            for word in ("paper", "steps", "saved"):
                with self.assertRaises(NoRoom):
                    answered(word + " " + text)
            told = run(read(text), 400)
            self.assertEqual(answered("run " + text), "answer " + str(told[2]) + " 1 " + str(told[1][1]))
            # These ask for no paper.
            self.assertEqual(answered("look " + text + " | ."), "none")
            self.assertEqual(answered("better " + text + " | " + text), "yes")
        self.assertEqual(answered("saved " + shown(many_lines([3, 5, 3, 5], 5)))[:3], "-:1")

    def test_beside_what_the_functions_tell(self):
        for program in [read(text) for text in ANSWERING] + drawn_programs(120, 81):
            text = shown(program)
            word, came_to, rules = run(program, 400)
            self.assertEqual(answered("run " + text).split(" ")[:2], [word, str(rules)])
            self.assertTrue(answered("run " + text).endswith(" " + shown(came_to)))
            try:
                paper = paper_of(program, 400)
            except NoRoom:
                with self.assertRaises(NoRoom):
                    answered("paper " + text)
                continue
            self.assertEqual(answered("paper " + text), show_paper(paper))
            kind = looked(program, paper)[0]
            self.assertEqual(answered("look " + text + " | " + show_paper(paper)), show_kind(kind) + " " + str(rules))
            self.assertEqual(answered("steps " + text).split(" "),
                             [str(one(paper)) for one in (steps_of, slips_of, look_ups_of, marks)])
            found = [".".join([str(k) for k in place]) or "-" for place in rule_places(program)]
            times = [str(met(program, place, 400)) for place in rule_places(program)]
            self.assertEqual(answered("saved " + text), " ".join([a + ":" + b for a, b in zip(found, times)]))
            if costs(program) is not None:
                self.assertEqual(answered("better " + text + " | " + shown(came_to)), self.better(program, came_to))

    def better(self, one, other):
        told = as_good(one, other)
        if told is None:
            return "yes"
        road = "".join(["1" if word == "first" else "2" for word in told[1]])
        return told[0] + " " + (road or "-")

    def test_texts_of_what_was_told(self):
        # What a function told may be handed on by its text, whatever its size.
        program = many_lines([3, 5, 3, 5], 5)
        paper = paper_of(program, 400)
        row = "look " + shown(program) + " | " + show_paper(paper)
        self.assertGreater(len(row), 6000)
        self.assertEqual(answered(row), "225 " + str(marks(paper)))
        now, later = played(program, paper)[100]
        self.assertEqual(answered("look " + shown(now) + " | " + show_paper(later)), "225 " + str(marks(later)))
        self.assertEqual(answered("paper " + shown(now)), show_paper(later))

    def test_those_that_come_to_no_answer(self):
        for text, word in NO_ANSWER:
            self.assertEqual(answered("run " + text).split(" ")[0], word)
            for asked in ("paper", "steps", "saved"):
                self.assertEqual(answered(asked + " " + text), "none")

    def test_just_400_rules_and_more(self):
        long, longer = shown(sum_of([whole(1)] * 401)), shown(sum_of([whole(1)] * 402))
        self.assertEqual(answered("run " + long), "answer 400 1 401")
        self.assertEqual(answered("run " + longer), "more 400")
        self.assertEqual(answered("steps " + long), "1200 0 0 400")
        self.assertEqual(answered("steps " + longer), "none")
        self.assertEqual(answered("better 401 | " + long), "yes")
        with self.assertRaises(NoData):
            answered("better 402 | " + longer)

    def test_a_paper_of_another_kind_of_refusal(self):
        with self.assertRaises(NoPaper):
            looked(read("7"), read_paper("~"))
        self.assertEqual(answered("look 7 | ~"), "none")


if __name__ == "__main__":
    unittest.main()
