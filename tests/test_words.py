import unittest

from fakehunt.words import is_name, number_in, place_in
from samples import HIGH, LOW


class IsNameTest(unittest.TestCase):
    def test_one_to_eight_small_letters(self):
        for word in ("a", "z", "m", "ab", "zz", "abcdefgh", "stuvwxyz", "zzzzzzzz", "go", "put", "if", "mod", "take"):
            with self.subTest(word=word):
                self.assertIs(is_name(word), True)

    def test_every_letter(self):
        for word in "abcdefghijklmnopqrstuvwxyz":
            self.assertIs(is_name(word), True)

    def test_none_and_nine(self):
        for word in ("", "abcdefghi", "zzzzzzzzz", "a" * 20):
            with self.subTest(word=word):
                self.assertIs(is_name(word), False)

    def test_other_signs(self):
        words = (
            "A", "Z", "aB", "Ab", "ABCDEFGH", "a1", "1a", "1", "0", "a_", "_", "_a", "a-b", "-a", "a b", " a", "a ",
            " ", "\t", "a\t", "\ta", "a\n", "\na", "`", "{", "@", "#", "a#", "+", "<", "",
        )
        for word in words:
            with self.subTest(word=word):
                self.assertIs(is_name(word), False)


class NumberInTest(unittest.TestCase):
    def test_numbers(self):
        for number in (0, 1, 9, 10, 42, 100, 123456789, HIGH - 1, HIGH, -1, -9, -10, -123456789, LOW + 1, LOW):
            with self.subTest(number=number):
                self.assertEqual(number_in(str(number)), number)
                self.assertIs(type(number_in(str(number))), int)

    def test_just_beyond_the_edges(self):
        for word in ("1000000000", "1000000001", "-1000000001", "-1000000002", "9999999999", "-9999999999"):
            with self.subTest(word=word):
                self.assertIsNone(number_in(word))

    def test_ten_and_eleven_figures(self):
        self.assertEqual(number_in("-1000000000"), LOW)
        for word in ("10000000000", "-10000000000", "00000000001", "99999999999", "1" * 5000):
            with self.subTest(word=word[:12]):
                self.assertIsNone(number_in(word))

    def test_noughts(self):
        self.assertEqual(number_in("0"), 0)
        for word in ("-0", "00", "-00", "01", "-01", "007", "0000000001", "-0000000001"):
            with self.subTest(word=word):
                self.assertIsNone(number_in(word))

    def test_other_signs(self):
        words = (
            "", "-", "--1", "-+1", "+1", "+0", "1_0", "_1", "1_", " 1", "1 ", "- 1", "1 2", " ", "\t", "\t1", "1\t",
            "1\n", "\n1", "1.0", "1e3", "0x1", "a", "1a", "a1", "1-", "1-2", "-a", "#1", "(1)",
        )
        for word in words:
            with self.subTest(word=word):
                self.assertIsNone(number_in(word))


class PlaceInTest(unittest.TestCase):
    def test_one_or_two_figures(self):
        for place in range(100):
            with self.subTest(place=place):
                self.assertEqual(place_in(str(place)), place)
                self.assertIs(type(place_in(str(place))), int)

    def test_three_figures(self):
        for word in ("100", "999", "000", "012"):
            self.assertIsNone(place_in(word))

    def test_noughts_ahead(self):
        for word in ("00", "01", "09"):
            self.assertIsNone(place_in(word))

    def test_other_signs(self):
        for word in ("", "-1", "-0", "-", "+1", "1_", "_1", " 1", "1 ", " ", "\t", "1\t", "1\n", "a", "1a", "a1", "1."):
            with self.subTest(word=word):
                self.assertIsNone(place_in(word))


if __name__ == "__main__":
    unittest.main()
