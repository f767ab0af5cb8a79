import unittest

from kindbags.words import is_figures, is_name, name_of, words_of

TONGUE = ("way", "give", "pair", "first", "second", "plus", "look")


class IsNameTest(unittest.TestCase):
    def test_names(self):
        for text in ("a", "z", "x", "abcdefgh", "zzzzzzzz", "name", "whole", "some", "left", "both"):
            self.assertIs(is_name(text), True, text)

    def test_words_of_the_tongue_are_none_but_with_a_letter_more_or_less(self):
        for word in TONGUE:
            self.assertIs(is_name(word), False, word)
            self.assertIs(is_name(word + "s"), True, word)
            self.assertIs(is_name("a" + word), True, word)
            self.assertIs(is_name(word[:-1]), True, word)
            self.assertIs(is_name(word[1:]), True, word)

    def test_none(self):
        for text in ("", "abcdefghi", "A", "aB", "a1", "1", "a_b", "a b", " a", "a ", "a\n", "-", "(", ")", "a-",
                     "\u00e4", "\u03b1", "a.", "~", "Way"):
            self.assertIs(is_name(text), False, text)


class IsFiguresTest(unittest.TestCase):
    def test_wholes(self):
        for text in ("0", "1", "9", "10", "100", "-1", "-10", "999999999", "-999999999", "123456789", "100000000"):
            self.assertIs(is_figures(text), True, text)

    def test_none(self):
        for text in ("", "-", "+1", "+0", "-0", "00", "01", "-01", "000000001", "1234567890", "-1234567890",
                     "0000000000", "1.", "1.0", "1e3", "1_0", " 1", "1 ", "--1", "1-", "a", "1a", "a1", "0x1",
                     "\u0661", "\u00b2", "\uff11", "1\n"):
            self.assertIs(is_figures(text), False, text)


class WordsOfTest(unittest.TestCase):
    def test_ordinary(self):
        self.assertEqual(words_of("(give (way x x) 12)"), ["(", "give", "(", "way", "x", "x", ")", "12", ")"])

    def test_no_words(self):
        for text in ("", " ", "   ", "\n", " \n \n\n "):
            self.assertEqual(words_of(text), [])

    def test_brackets_need_no_blanks(self):
        self.assertEqual(words_of("a(b)c)(("), ["a", "(", "b", ")", "c", ")", "(", "("])
        self.assertEqual(words_of("( a ) ( b )"), ["(", "a", ")", "(", "b", ")"])

    def test_blanks_and_line_feeds(self):
        self.assertEqual(words_of("  a\nb \n\n c  "), ["a", "b", "c"])
        self.assertEqual(words_of("\n(\na\n)\n"), ["(", "a", ")"])

    def test_all_other_signs_are_of_words(self):
        self.assertEqual(words_of("a,b [c] #d~ -0 +1 12x \"'"), ["a,b", "[c]", "#d~", "-0", "+1", "12x", "\"'"])
        every = "".join(chr(code) for code in range(33, 127) if chr(code) not in "()%")
        self.assertEqual(words_of(every), [every])

    def test_the_list_is_the_askers_own(self):
        told = words_of("a b")
        self.assertIs(type(told), list)
        told.append("c")
        told[0] = "z"
        self.assertEqual(words_of("a b"), ["a", "b"])


class NameOfTest(unittest.TestCase):
    def test_edges(self):
        for number, name in ((0, "a"), (1, "b"), (25, "z"), (26, "aa"), (27, "ab"), (51, "az"), (52, "ba"),
                             (77, "bz"), (78, "ca"), (700, "zy")):
            self.assertEqual(name_of(number), name)

    def test_the_row(self):
        letters = "abcdefghijklmnopqrstuvwxyz"
        row = list(letters) + [a + b for a in letters for b in letters]
        self.assertEqual([name_of(number) for number in range(701)], row[:701])

    def test_further_on_the_row_holds_names_alone(self):
        self.assertEqual([name_of(number) for number in (701, 702, 703)], ["zz", "aaa", "aab"])
        told = [name_of(number) for number in range(15590, 15610)]
        self.assertEqual(told, ["waq", "war", "was", "wat", "wau", "wav", "waw", "wax", "waz", "wba", "wbb", "wbc",
                                "wbd", "wbe", "wbf", "wbg", "wbh", "wbi", "wbj", "wbk"])
        self.assertTrue(all(is_name(name) for name in told))


if __name__ == "__main__":
    unittest.main()
