import unittest

from kindbags import errors
from kindbags.errors import BagError, NoData, NoFit, NoName, NoPaper, NoRoom, NoRow, NoRule, NoText


class ErrorsTest(unittest.TestCase):
    def test_each_stands_right_under_bag_error(self):
        self.assertEqual(BagError.__bases__, (ValueError,))
        for refusal in (NoText, NoName, NoRule, NoPaper, NoFit, NoData, NoRoom, NoRow):
            self.assertEqual(refusal.__bases__, (BagError,), refusal)

    def test_no_other_refusals(self):
        classes = sorted(word for word in vars(errors) if isinstance(vars(errors)[word], type))
        self.assertEqual(classes, ["BagError", "NoData", "NoFit", "NoName", "NoPaper", "NoRoom", "NoRow", "NoRule",
                                   "NoText"])

    def test_fields(self):
        self.assertEqual(NoText(0).at, 0)
        self.assertEqual(NoText(12).at, 12)
        self.assertEqual(NoText(at=3).at, 3)
        self.assertEqual(NoName("x").name, "x")
        self.assertEqual(NoName(name="abc").name, "abc")
        self.assertEqual(NoPaper(()).at, ())
        self.assertEqual(NoPaper((0, 2)).at, (0, 2))
        self.assertEqual(NoPaper(at=(1,)).at, (1,))

    def test_those_without_a_field_are_made_with_nothing(self):
        for refusal in (NoRule, NoFit, NoData, NoRoom, NoRow):
            self.assertIsInstance(refusal(), BagError)
            self.assertEqual(vars(refusal()), {})

    def test_raised_and_taken(self):
        for made in (NoText(1), NoName("x"), NoRule(), NoPaper((1,)), NoFit(), NoData(), NoRoom(), NoRow()):
            with self.assertRaises(BagError) as taken:
                raise made
            self.assertIs(taken.exception, made)


if __name__ == "__main__":
    unittest.main()
