import unittest

from fakehunt.errors import HuntError, NoLine, NoName, NoPlace, TextError, TooMany, TooWide, Twice

ABOVE = {
    HuntError: (HuntError,),
    TextError: (TextError, HuntError),
    NoLine: (NoLine, TextError, HuntError),
    Twice: (Twice, TextError, HuntError),
    NoName: (NoName, TextError, HuntError),
    NoPlace: (NoPlace, TextError, HuntError),
    TooWide: (TooWide, HuntError),
    TooMany: (TooMany, HuntError),
}


class ErrorsTest(unittest.TestCase):
    def test_which_class_stands_under_which(self):
        for one in ABOVE:
            for other in ABOVE:
                with self.subTest(one=one.__name__, other=other.__name__):
                    self.assertEqual(issubclass(one, other), other in ABOVE[one])

    def test_every_refusal_is_a_value_error(self):
        self.assertEqual(HuntError.__bases__, (ValueError,))
        for one in ABOVE:
            self.assertTrue(issubclass(one, ValueError))

    def test_no_class_under_the_two_of_size(self):
        self.assertEqual(TooWide.__subclasses__(), [])
        self.assertEqual(TooMany.__subclasses__(), [])

    def test_text_errors_have_their_line(self):
        for one in (TextError, NoLine, Twice, NoName, NoPlace):
            for line in (1, 17):
                with self.subTest(one=one.__name__, line=line):
                    self.assertEqual(one(line).line, line)

    def test_too_wide_has_its_width(self):
        self.assertEqual(TooWide(65).width, 65)
        self.assertFalse(hasattr(TooWide(65), "number"))

    def test_too_many_has_its_number(self):
        self.assertEqual(TooMany(11).number, 11)
        self.assertFalse(hasattr(TooMany(11), "width"))

    def test_raised_and_taken_by_the_class_above(self):
        with self.assertRaises(HuntError) as taken:
            raise NoPlace(4)
        self.assertEqual(taken.exception.line, 4)
        with self.assertRaises(ValueError) as taken:
            raise TooMany(12)
        self.assertEqual(taken.exception.number, 12)

    def test_two_errors_keep_their_own_fields(self):
        one = NoLine(2)
        other = NoLine(3)
        self.assertEqual((one.line, other.line), (2, 3))


if __name__ == "__main__":
    unittest.main()
