import itertools
import unittest

from kindbags.errors import BagError, NoText
from kindbags.kinds import answer_kind, is_kind
from kindbags.kindtexts import read_kind, show_kind
from kindbags.names import put_in

from samples import KINDS, SOME, both, left, name, num, pair, right, same, small_kinds, to, way, whole


def plain_shown(kind):
    """A kind's text as the document says it."""
    if kind[0] == "is":
        return str(kind[1])
    if kind[0] == "some":
        return "~"
    if kind[0] == "left":
        return "(" + plain_shown(kind[1]) + ",)"
    if kind[0] == "right":
        return "(," + plain_shown(kind[1]) + ")"
    if kind[0] == "both":
        return "(" + plain_shown(kind[1]) + "," + plain_shown(kind[2]) + ")"
    return "[" + " ".join(plain_shown(k) for k in kind[1]) + ":" + plain_shown(kind[2]) + "]"


def refusal_of(text):
    try:
        read_kind(text)
    except NoText as refusal:
        return refusal.at
    return None


def all_texts(most):
    """Every kind's text of at most so many signs, of few signs, beside its kind."""
    found = {"~": SOME, "1": num(1), "0": num(0), "-1": num(-1), "10": num(10), "11": num(11), "100": num(100)}
    for length in (3, 4, 5):
        for figures in itertools.product("01", repeat=length):
            text = "".join(figures)
            if text[0] != "0":
                found[text] = num(int(text))
            if length < 5 and text[0] != "0":
                found["-" + text] = num(-int(text))
    found["-10"], found["-11"] = num(-10), num(-11)
    found = {text: kind for text, kind in found.items() if len(text) <= most}
    for _ in range(most):
        known = [(text, kind) for text, kind in found.items() if len(text) + 3 <= most]
        for text, kind in known:
            found[f"({text},)"] = left(kind)
            found[f"(,{text})"] = right(kind)
            found[f"[:{text}]"] = to([], kind)
        for (text, kind), (more, other) in itertools.product(known, repeat=2):
            if len(text) + len(more) + 3 <= most:
                if kind[0] in ("is", "some", "both") and other[0] in ("is", "some", "both"):
                    found[f"({text},{more})"] = both(kind, other)
                found[f"[{text}:{more}]"] = ("way", (kind,), other)
        for (text, kind), (more, other), (last, third) in itertools.product(known, repeat=3):
            if len(text) + len(more) + len(last) + 4 <= most and kind <= other:
                found[f"[{text} {more}:{last}]"] = ("way", (kind, other), third)
    return found


class ShowKindTest(unittest.TestCase):
    def test_written(self):
        for kind, text in KINDS:
            self.assertEqual(show_kind(kind), text)

    def test_small_ones(self):
        for kind in small_kinds(1) + small_kinds(2)[::5]:
            self.assertEqual(show_kind(kind), plain_shown(kind))

    def test_more_than_twelve_figures_are_written_and_not_read(self):
        self.assertEqual(show_kind(num(10 ** 12)), "1000000000000")
        self.assertEqual(show_kind(left(num(-(10 ** 20)))), "(-100000000000000000000,)")
        self.assertEqual(refusal_of(show_kind(num(10 ** 12))), 0)
        self.assertEqual(refusal_of(show_kind(left(num(-(10 ** 12))))), 0)


class ReadKindTest(unittest.TestCase):
    def test_written(self):
        for kind, text in KINDS:
            self.assertEqual(read_kind(text), kind)
            self.assertIs(is_kind(read_kind(text)), True)

    def test_small_ones(self):
        for kind in small_kinds(1) + small_kinds(2)[::5]:
            self.assertEqual(read_kind(show_kind(kind)), kind)

    def test_60_deep(self):
        for opening, closing in (("(", ",)"), ("(,", ")"), ("[:", "]"), ("[", ":1]"), ("[1 (1,) ", ":1]"), ("[:(", ",)]")):
            many = 30 if len(opening) == 3 else 60
            text = opening * many + "[:~]" + closing * many
            self.assertEqual(show_kind(read_kind(text)), text)
            self.assertEqual(refusal_of(opening * (many + 1) + "[:~]" + closing * many), 0)
            self.assertEqual(refusal_of(opening * many + "[:~]" + closing * (many + 1)), 0)

    def test_wholes(self):
        for text in ("0", "9", "10", "-1", "123456789012", "-123456789012", "999999999999"):
            self.assertEqual(read_kind(text), num(int(text)))
        for text in ("1234567890123", "-1234567890123", "1000000000000", "0000000000001", "-0", "+1", "+0", "01", "00",
                     "-01", "--1", "-", "1.", "1.0", "1_0", "1e3", "0x1", "a", "1a", "~1", "1~", "- 1", "1-", "#1", "."):
            for around in ("{}", "({},)", "(,{})", "({},1)", "[:{}]", "[{}:1]", "[1 {}:1]"):
                self.assertEqual(refusal_of(around.replace("{}", text)), 0, around.replace("{}", text))

    def test_no_signs_and_blanks(self):
        for text in ("", " ", "\n", " ~", "~ ", " 1", "1 ", "\n1", "1\n", "1 1", "~ ~", "( 1,)", "(1 ,)", "(1, )", "(1,) ",
                     " (1,)", "(, 1)", "(,1 )", "( ,1)", "(1, 2)", "(1 ,2)", "[ :1]", "[: 1]", "[:1 ]", "[1 :2]", "[1: 2]",
                     "[ 1:2]", "[1  2:3]", "[1 2 :3]", "[ 1 2:3]", "[12 :3]", "[1\n2:3]", "[1 2:3] ", "[\n:1]", "[1 2: 3]",
                     "(1,\n2)"):
            self.assertEqual(refusal_of(text), 0, text)

    def test_brackets(self):
        for text in ("(", ")", "[", "]", "()", "[]", "(,)", "(,,)", "[:]", "(1)", "[1]", "(1,2,3)", "(1,,2)", "(,1,)",
                     "(,1,2)", "(1,2,)", "[::1]", "[:1:2]", "[1:2:3]", "[1,2:3]", "[1 2]", "[1:]", "[,1:2]", "(1:2)", "(1 2)",
                     "(:1)", "[1:2", "1:2]", "(1,", "1,)", "(1,]", "[:1)", "((1,)", "(1,))", "[[:1]", "[:1]]", "(1,)(1,)",
                     "(1,)[:1]", "[:1][:1]", "[:1 2]", "[:~~]", "[~~:1]", "[(1,)(1,):1]", "[(1,)1:1]", "(~~,)", "(1~,)",
                     "([:1],2,)", "{1}", "<1>", ",", ":", "~~", "1,2", ",1", "1,", ":1", "[(1,]:2)", "([:1,)]", "(1,)1",
                     "1(1,)"):
            self.assertEqual(refusal_of(text), 0, text)

    def test_both_only_of_kinds_of_answers(self):
        for text in ("((1,),2)", "(1,(,2))", "([:1],~)", "(~,[:1])", "((1,[:~]),~)", "[:(1,(1,))]", "[((,1),1):1]"):
            self.assertEqual(refusal_of(text), 0, text)

    def test_bags_out_of_order(self):
        for text in ("[2 1:1]", "[10 2:~]", "[1 -1:~]", "[~ 1:1]", "[1 (1,1):1]", "[[:1] ~:1]", "[(,1) (1,):1]", "[1 2 1:1]",
                     "[[1:2] [:2]:1]", "(,[2 1:1])", "[[2 1:1]:1]", "[:[2 1:1]]", "[1 1 0:~]"):
            self.assertEqual(refusal_of(text), 0, text)

    def test_every_short_text(self):
        wanted = all_texts(5)
        for many in range(6):
            for signs in itertools.product("01-~[](), :", repeat=many):
                text = "".join(signs)
                try:
                    told = read_kind(text)
                except NoText as refusal:
                    self.assertEqual(refusal.at, 0)
                    told = None
                self.assertEqual(told, wanted.get(text), text)

    def test_one_sign_more_fewer_or_another(self):
        for kind, text in KINDS:
            changed = [text[:k] + text[k + 1:] for k in range(len(text))]
            for sign in "01-~[](), :+a\n#":
                changed += [text[:k] + sign + text[k:] for k in range(len(text) + 1)]
                changed += [text[:k] + sign + text[k + 1:] for k in range(len(text))]
            for other in changed:
                try:
                    told = read_kind(other)
                except NoText:
                    continue
                self.assertIs(is_kind(told), True, other)
                self.assertEqual(show_kind(told), other)

    def test_refusals_are_bag_errors(self):
        with self.assertRaises(BagError):
            read_kind("(")

    def test_asked_again(self):
        for _ in range(2):
            self.assertEqual(read_kind("[1 1:~]"), to([num(1), num(1)], SOME))
            self.assertEqual(refusal_of("[2 1:~]"), 0)

    def test_what_was_told_whatever_its_size(self):
        deep = pair(pair(name(0), whole(1)), way(name(0)))
        for _ in range(10):
            deep = put_in(deep, deep)
        kind = answer_kind(put_in(deep, whole(5)))
        text = show_kind(kind)
        self.assertEqual(text, "(" * 2 ** 11 + "5" + ",1),~)" * 2 ** 10)
        self.assertTrue(same(read_kind(text), kind))
        self.assertEqual(refusal_of(text + ")"), 0)
        bag = f"[{text} {text}:{text}]"
        self.assertTrue(same(read_kind(bag), ("way", (kind, kind), kind)))


if __name__ == "__main__":
    unittest.main()
