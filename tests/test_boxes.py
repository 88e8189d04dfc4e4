import itertools
import unittest

from fakehunt.boxes import box, menu, tried, width
from fakehunt.errors import HuntError, TextError, TooMany, TooWide
from samples import HIGH, LOW, NOTHING, SUMMING, kinds_are_plain, name, some_programs

WHOLE = (LOW, HIGH)


def taking(*stretches):
    return (stretches, len(stretches), (("tell", name(0)),) if stretches else ())


class WidthTest(unittest.TestCase):
    def check(self, many, *stretches):
        with self.subTest(stretches=stretches):
            self.assertEqual(width(taking(*stretches)), many)
            self.assertIs(type(width(taking(*stretches))), int)

    def test_no_takes(self):
        self.check(1)
        self.assertEqual(width(NOTHING), 1)

    def test_one_stretch(self):
        self.check(1, (5, 5))
        self.check(10, (0, 9))
        self.check(64, (1, 64))
        self.check(65, (0, 64))
        self.check(4, (-5, -2))
        self.check(3, (-1, 1))

    def test_several_stretches(self):
        self.check(6, (0, 1), (0, 2))
        self.check(64, (0, 7), (-4, 3))
        self.check(64, (0, 3), (0, 3), (0, 3))
        self.check(65, (0, 4), (0, 12))
        self.check(1, (3, 3), (LOW, LOW), (HIGH, HIGH))

    def test_very_wide(self):
        self.check(2000000000, WHOLE)
        self.check(2000000000 ** 3, WHOLE, WHOLE, WHOLE)


class BoxTest(unittest.TestCase):
    def test_no_takes(self):
        self.assertEqual(box(NOTHING), ((),))
        self.assertEqual(box(((), 3, ())), ((),))

    def test_one_stretch(self):
        self.assertEqual(box(taking((2, 4))), ((2,), (3,), (4,)))
        self.assertEqual(box(taking((-2, 1))), ((-2,), (-1,), (0,), (1,)))
        self.assertEqual(box(taking((7, 7))), ((7,),))
        self.assertEqual(box(taking((LOW, LOW + 1))), ((LOW,), (LOW + 1,)))
        self.assertEqual(box(taking((HIGH - 1, HIGH))), ((HIGH - 1,), (HIGH,)))

    def test_by_the_first_number_then_by_the_second(self):
        self.assertEqual(box(taking((0, 1), (5, 7))), ((0, 5), (0, 6), (0, 7), (1, 5), (1, 6), (1, 7)))
        self.assertEqual(box(taking((0, 1), (2, 2), (-1, 0))), ((0, 2, -1), (0, 2, 0), (1, 2, -1), (1, 2, 0)))

    def test_just_wide_enough(self):
        self.assertEqual(box(taking((1, 64))), tuple((i,) for i in range(1, 65)))
        self.assertEqual(box(taking((0, 3), (0, 3), (0, 3))), tuple(itertools.product(range(4), repeat=3)))

    def test_too_wide(self):
        for many, stretches in ((65, ((0, 64),)), (65, ((0, 4), (0, 12))), (2000000000, (WHOLE,)),
                                (2000000000 ** 3, (WHOLE, WHOLE, WHOLE)), (66, ((0, 1), (0, 2), (0, 10)))):
            with self.subTest(stretches=stretches):
                with self.assertRaises(TooWide) as taken:
                    box(taking(*stretches))
                self.assertEqual(taken.exception.width, many)
                self.assertIsInstance(taken.exception, HuntError)
                self.assertNotIsInstance(taken.exception, (TextError, TooMany))

    def test_more_takes_than_three_are_not_refused(self):
        self.assertEqual(box(taking((0, 1), (0, 1), (0, 1), (0, 1))), tuple(itertools.product((0, 1), repeat=4)))


class MenuTest(unittest.TestCase):
    def check(self, stretches, *numbers):
        with self.subTest(stretches=stretches):
            self.assertEqual(menu(taking(*stretches)), tuple(itertools.product(*numbers)))

    def test_no_takes(self):
        self.assertEqual(menu(NOTHING), ((),))

    def test_stretches_of_one_two_and_three_numbers(self):
        self.check([(4, 4)], (4,))
        self.check([(4, 5)], (4, 5))
        self.check([(4, 6)], (4, 5, 6))
        self.check([(4, 7)], (4, 5, 7))
        self.check([(0, 100)], (0, 50, 100))
        self.check([(0, 99)], (0, 49, 99))

    def test_below_nought_the_middle_is_rounded_down(self):
        self.check([(-4, -4)], (-4,))
        self.check([(-5, -4)], (-5, -4))
        self.check([(-5, -2)], (-5, -4, -2))
        self.check([(-1, 0)], (-1, 0))
        self.check([(-2, 1)], (-2, -1, 1))
        self.check([(-10, 3)], (-10, -4, 3))

    def test_at_the_edges(self):
        self.check([WHOLE], (LOW, -1, HIGH))
        self.check([(LOW, LOW)], (LOW,))
        self.check([(HIGH - 1, HIGH)], (HIGH - 1, HIGH))

    def test_several_stretches(self):
        self.check([(0, 9), (3, 3), (5, 6)], (0, 4, 9), (3,), (5, 6))
        self.check([WHOLE, WHOLE, WHOLE], *[(LOW, -1, HIGH)] * 3)
        self.assertEqual(menu(taking((0, 9), (5, 6))), ((0, 5), (0, 6), (4, 5), (4, 6), (9, 5), (9, 6)))

    def test_each_once_in_order_and_within_the_stretches(self):
        for program in some_programs(80, 100):
            told = menu(program)
            self.assertTrue(kinds_are_plain(told))
            self.assertEqual(list(told), sorted(set(told)))
            if width(program) <= 64:
                self.assertTrue(set(told) <= set(box(program)))


class TriedTest(unittest.TestCase):
    def test_the_box(self):
        for stretches in ((), ((0, 0),), ((1, 64),), ((0, 7), (0, 7)), ((0, 3),) * 3):
            with self.subTest(stretches=stretches):
                self.assertEqual(tried(taking(*stretches)), box(taking(*stretches)))
        self.assertEqual(len(tried(taking((1, 64)))), 64)
        self.assertEqual(tried(SUMMING), tuple((i,) for i in range(10)))

    def test_the_menu(self):
        for stretches in (((0, 64),), ((0, 4), (0, 12)), (WHOLE,) * 3):
            with self.subTest(stretches=stretches):
                self.assertEqual(tried(taking(*stretches)), menu(taking(*stretches)))
        self.assertEqual(tried(taking((0, 64))), ((0,), (32,), (64,)))


if __name__ == "__main__":
    unittest.main()
