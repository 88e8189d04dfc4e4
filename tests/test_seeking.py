import unittest

from fakehunt.boxes import tried
from fakehunt.fakes import fake_of, fakes
from fakehunt.seeking import sought
from fakehunt.sides import tells
from samples import GREATER, HIGH, LOW, NOTHING, SKIP, SUMMING, name, number, some_programs

A = name(0)


def of_stretch(low, high):
    """Tells 1 where it takes a number above 50, else 0."""
    return (((low, high),), 1, (("if", number(50), "<", A, 2), ("tell", number(0)), ("tell", number(1))))


class SoughtTest(unittest.TestCase):
    def test_the_first_that_tells(self):
        other = fake_of(SUMMING, 0, ("if", A, "<=", number(3), 4))
        self.assertEqual([i for i in range(10) if tells(SUMMING, other, (i,))], list(range(1, 10)))
        self.assertEqual(sought(SUMMING, other), (1,))
        other = fake_of(GREATER, 0, ("if", A, ">=", name(1), 2))
        self.assertEqual(sought(GREATER, other), (-3, -2))

    def test_none(self):
        self.assertIsNone(sought(SUMMING, SUMMING))
        self.assertIsNone(sought(NOTHING, NOTHING))
        self.assertIsNone(sought(GREATER, fake_of(GREATER, 0, ("if", A, "<=", name(1), 2))))

    def test_nothing_taken(self):
        self.assertEqual(sought(((), 0, (SKIP,)), ((), 0, (("tell", number(0)),))), ())
        self.assertIsNone(sought(((), 0, (SKIP,)), NOTHING))

    def test_only_by_inputs_of_the_box(self):
        for high in (50, 51):
            one = of_stretch(0, high)
            other = fake_of(one, 2, ("tell", number(7)))
            self.assertEqual(sought(one, other), None if high == 50 else (51,))

    def test_the_box_is_the_ones(self):
        one = of_stretch(40, 60)
        other = (((0, 20),), 1, (("tell", number(0)),))
        self.assertEqual(sought(one, other), (51,))
        self.assertIsNone(sought(other, one))

    def test_by_the_menu_where_the_box_is_wide(self):
        one = of_stretch(0, 64)
        self.assertEqual(sought(one, fake_of(one, 2, ("tell", number(7)))), (64,))
        self.assertEqual(sought(one, fake_of(one, 1, ("tell", number(7)))), (0,))
        # Only 50 would tell these two, and it is not tried.
        other = fake_of(one, 0, ("if", number(49), "<", A, 2))
        self.assertTrue(tells(one, other, (50,)))
        self.assertIsNone(sought(one, other))
        one = of_stretch(0, 63)
        self.assertEqual(sought(one, fake_of(one, 0, ("if", number(49), "<", A, 2))), (50,))
        one = of_stretch(LOW, HIGH)
        self.assertEqual(sought(one, fake_of(one, 2, SKIP)), (HIGH,))

    def test_a_limit(self):
        other = fake_of(SUMMING, 4, SKIP)
        self.assertIsNone(sought(SUMMING, other, 0))
        self.assertIsNone(sought(SUMMING, other, 1))
        self.assertEqual(sought(SUMMING, other, 2), (0,))
        other = fake_of(SUMMING, 0, ("if", A, "<=", number(3), 4))
        self.assertIsNone(sought(SUMMING, other, 1))
        self.assertEqual(sought(SUMMING, other, 2), (1,))

    def test_the_limit_left_out_is_one_hundred(self):
        early = ((), 0, (SKIP,) * 99 + (("tell", number(3)),))
        late = ((), 0, (SKIP,) * 100 + (("tell", number(3)),))
        self.assertEqual(sought(early, fake_of(early, 99, SKIP)), ())
        self.assertIsNone(sought(late, fake_of(late, 100, ("tell", number(4)))))
        self.assertEqual(sought(late, fake_of(late, 100, ("tell", number(4))), 101), ())

    def test_of_many_programs(self):
        for program in some_programs(81, 25):
            for k, word, row in fakes(program)[:12]:
                other = fake_of(program, k, row)
                telling = [inputs for inputs in tried(program) if tells(program, other, inputs, 20)]
                self.assertEqual(sought(program, other, 20), telling[0] if telling else None)


if __name__ == "__main__":
    unittest.main()
