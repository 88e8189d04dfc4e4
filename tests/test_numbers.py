import unittest

from fakehunt.numbers import around, is_so, reckon

LOW = -1000000000
HIGH = 999999999
SOME = (LOW, LOW + 1, -500000000, -7, -3, -2, -1, 0, 1, 2, 3, 7, 44721, 500000000, HIGH - 1, HIGH)


class AroundTest(unittest.TestCase):
    def check(self, table):
        for number, small in table:
            with self.subTest(number=number):
                self.assertEqual(around(number), small)
                self.assertIs(type(around(number)), int)

    def test_small_numbers_stay(self):
        self.check([(number, number) for number in SOME])

    def test_next_to_the_edges(self):
        self.check([
            (999999999, 999999999), (1000000000, -1000000000), (1000000001, -999999999),
            (-999999999, -999999999), (-1000000000, -1000000000), (-1000000001, 999999999),
            (1999999999, -1), (2000000000, 0), (2000000001, 1),
            (-1999999999, 1), (-2000000000, 0), (-2000000001, -1),
            (2999999999, 999999999), (3000000000, -1000000000), (3000000001, -999999999),
            (-2999999999, -999999999), (-3000000000, -1000000000), (-3000000001, 999999999),
            (4000000000, 0), (-4000000000, 0), (5000000000, -1000000000), (-5000000000, -1000000000),
        ])

    def test_many_figures(self):
        self.check([
            (12345678901234567890, -765432110),
            (-12345678901234567890, 765432110),
            (10 ** 40 + 5, 5), (-(10 ** 40) - 5, -5),
            (10 ** 40 + 10 ** 9, LOW), (10 ** 40 + 10 ** 9 - 1, HIGH),
            (-(10 ** 40) - 10 ** 9, LOW), (-(10 ** 40) - 10 ** 9 - 1, HIGH),
        ])

    def test_small_and_whole_rounds_away(self):
        for times in range(-9, 10):
            for beside in (-2, -1, 0, 1, 2):
                number = times * 1000000000 + beside
                with self.subTest(number=number):
                    small = around(number)
                    self.assertTrue(LOW <= small <= HIGH)
                    self.assertEqual((number - small) % 2000000000, 0)


class ReckonTest(unittest.TestCase):
    def check(self, sign, table):
        for one, other, number in table:
            with self.subTest(one=one, sign=sign, other=other):
                self.assertEqual(reckon(one, sign, other), number)

    def test_sums(self):
        self.check("+", [
            (2, 3, 5), (-2, 3, 1), (2, -3, -1), (-2, -3, -5), (7, 0, 7), (0, 7, 7),
            (HIGH, 0, HIGH), (LOW, 0, LOW), (HIGH, 1, LOW), (LOW, -1, HIGH), (1, HIGH, LOW), (-1, LOW, HIGH),
            (HIGH, HIGH, -2), (LOW, LOW, 0), (LOW, HIGH, -1), (HIGH, LOW, -1), (HIGH, -1, HIGH - 1),
        ])

    def test_differences(self):
        self.check("-", [
            (2, 3, -1), (-2, 3, -5), (2, -3, 5), (-2, -3, 1), (7, 0, 7), (0, 7, -7),
            (HIGH, 0, HIGH), (LOW, 0, LOW), (LOW, 1, HIGH), (HIGH, -1, LOW), (0, LOW, LOW), (0, HIGH, -HIGH),
            (HIGH, HIGH, 0), (LOW, LOW, 0), (HIGH, LOW, -1), (LOW, HIGH, 1), (-1, LOW, HIGH), (-1, HIGH, LOW),
        ])

    def test_products(self):
        self.check("*", [
            (2, 3, 6), (-2, 3, -6), (2, -3, -6), (-2, -3, 6), (7, 0, 0), (0, 7, 0), (LOW, 0, 0), (HIGH, 0, 0),
            (LOW, 1, LOW), (LOW, -1, LOW), (HIGH, -1, -HIGH), (HIGH, 2, -2), (LOW, 2, 0), (LOW, 3, LOW),
            (HIGH, HIGH, 1), (LOW, LOW, 0), (LOW, HIGH, LOW), (HIGH, LOW, LOW), (44721, 44721, -32159),
        ])

    def test_division_rounds_down(self):
        self.check("/", [
            (6, 3, 2), (7, 2, 3), (-7, 2, -4), (7, -2, -4), (-7, -2, 3), (1, 3, 0), (-1, 3, -1), (1, -3, -1),
            (0, 5, 0), (0, -5, 0), (LOW, 1, LOW), (HIGH, 1, HIGH), (HIGH, -1, -HIGH),
            (LOW, 2, -500000000), (HIGH, 2, 499999999), (HIGH, -2, -500000000), (LOW, 3, -333333334),
            (HIGH, HIGH, 1), (LOW, LOW, 1), (LOW, HIGH, -2), (HIGH, LOW, -1), (1, LOW, -1), (-1, LOW, 0),
        ])

    def test_the_lowest_by_minus_one_is_brought_round(self):
        self.assertEqual(reckon(LOW, "/", -1), LOW)

    def test_division_by_nought(self):
        self.check("/", [(one, 0, 0) for one in SOME])

    def test_what_is_left_over(self):
        self.check("mod", [
            (6, 3, 0), (7, 2, 1), (-7, 2, 1), (7, -2, -1), (-7, -2, -1), (1, 3, 1), (-1, 3, 2), (1, -3, -2),
            (0, 5, 0), (0, -5, 0), (LOW, 1, 0), (LOW, -1, 0), (HIGH, -1, 0), (LOW, 3, 2), (HIGH, 2, 1),
            (HIGH, HIGH, 0), (LOW, LOW, 0), (LOW, HIGH, 999999998), (HIGH, LOW, -1),
            (1, LOW, -999999999), (-1, HIGH, 999999998), (-1, LOW, -1),
        ])

    def test_left_over_by_nought_is_the_first(self):
        self.check("mod", [(one, 0, one) for one in SOME])

    def test_always_small_numbers(self):
        for one in SOME:
            for other in SOME:
                for sign in ("+", "-", "*", "/", "mod"):
                    with self.subTest(one=one, sign=sign, other=other):
                        number = reckon(one, sign, other)
                        self.assertIs(type(number), int)
                        self.assertTrue(LOW <= number <= HIGH)

    def test_division_and_what_is_left_over_make_the_first(self):
        for one in SOME:
            for other in SOME:
                with self.subTest(one=one, other=other):
                    left = reckon(one, "mod", other)
                    self.assertEqual(around(reckon(one, "/", other) * other + left), one)
                    if other > 0:
                        self.assertTrue(0 <= left < other)
                    if other < 0:
                        self.assertTrue(other < left <= 0)


class IsSoTest(unittest.TestCase):
    # What each sign says of a first number below, equal to and above the second.
    SAID = {
        "<": (True, False, False),
        "<=": (True, True, False),
        "=": (False, True, False),
        ">=": (False, True, True),
        ">": (False, False, True),
        "!=": (True, False, True),
    }

    def test_each_sign(self):
        pairs = ((-1, 0), (0, 1), (-3, -2), (6, 7), (LOW, HIGH), (LOW, LOW + 1), (HIGH - 1, HIGH))
        for sign, (below, equal, above) in self.SAID.items():
            for low, high in pairs:
                with self.subTest(sign=sign, low=low, high=high):
                    self.assertIs(is_so(low, sign, high), below)
                    self.assertIs(is_so(low, sign, low), equal)
                    self.assertIs(is_so(high, sign, high), equal)
                    self.assertIs(is_so(high, sign, low), above)


if __name__ == "__main__":
    unittest.main()
