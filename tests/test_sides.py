import unittest

from fakehunt.fakes import fake_of, fakes
from fakehunt.machine import outcome, trail
from fakehunt.sides import parting, tells
from samples import (
    GREATER, NOTHING, SKIP, SUMMING, kinds_are_plain, name, number, some_inputs, some_programs,
)

A = name(0)


def skips(many):
    return ((), 0, (SKIP,) * many)


class PartingTest(unittest.TestCase):
    def test_the_same_program(self):
        self.assertIsNone(parting(NOTHING, NOTHING, ()))
        for inputs in ((0,), (5,), (-3,)):
            self.assertIsNone(parting(SUMMING, SUMMING, inputs))
        self.assertIsNone(parting(GREATER, GREATER, (1, 2), 0))

    def test_unlike_programs_with_the_same_trail(self):
        self.assertIsNone(parting(GREATER, fake_of(GREATER, 2, SKIP), (2, 1)))
        self.assertEqual(parting(GREATER, fake_of(GREATER, 2, SKIP), (1, 2)), (2, ("told", 2), (3, (1, 2))))

    def test_at_the_first_thing(self):
        one = (((0, 9),), 1, (("tell", A),))
        other = (((0, 9),), 2, (("tell", A),))
        self.assertEqual(parting(one, other, (4,)), (0, (0, (4,)), (0, (4, 0))))
        self.assertEqual(parting(other, one, (4,)), (0, (0, (4, 0)), (0, (4,))))
        self.assertFalse(tells(one, other, (4,)))

    def test_at_the_last_thing(self):
        one = ((), 0, (SKIP, ("tell", number(3))))
        other = ((), 0, (SKIP, ("tell", number(4))))
        self.assertEqual(parting(one, other, ()), (2, ("told", 3), ("told", 4)))
        self.assertTrue(tells(one, other, ()))

    def test_an_outcome_and_a_state(self):
        self.assertEqual(parting(skips(1), skips(2), ()), (2, ("none",), (2, ())))
        self.assertEqual(parting(skips(2), skips(1), ()), (2, (2, ()), ("none",)))
        self.assertEqual(parting(NOTHING, skips(1), ()), (1, ("none",), (1, ())))
        self.assertFalse(tells(skips(1), skips(2), ()))

    def test_trails_of_unlike_length(self):
        one = ((), 0, (("tell", number(0)),))
        self.assertEqual(parting(one, skips(5), ()), (1, ("told", 0), (1, ())))
        self.assertEqual(parting(skips(5), one, ()), (1, (1, ()), ("told", 0)))

    def test_parted_and_the_same_outcome(self):
        one = ((), 2, (("put", 1, A, "+", number(1)), ("tell", A)))
        other = fake_of(one, 0, SKIP)
        self.assertEqual(parting(one, other, ()), (1, (1, (0, 1)), (1, (0, 0))))
        self.assertFalse(tells(one, other, ()))

    def test_a_limit(self):
        one = ((), 0, (SKIP, SKIP, ("tell", number(3))))
        other = ((), 0, (SKIP, SKIP, ("tell", number(4))))
        for limit in (0, 1, 2):
            self.assertIsNone(parting(one, other, (), limit))
            self.assertFalse(tells(one, other, (), limit))
        self.assertEqual(parting(one, other, (), 3), (3, ("told", 3), ("told", 4)))
        self.assertTrue(tells(one, other, (), 3))

    def test_late_beside_told(self):
        self.assertEqual(parting(skips(1), skips(2), (), 1), (2, ("none",), ("late",)))
        self.assertTrue(tells(skips(1), skips(2), (), 1))

    def test_the_limit_left_out_is_one_hundred(self):
        early = ((), 0, (SKIP,) * 99 + (("tell", number(3)),))
        other = fake_of(early, 99, ("tell", number(4)))
        self.assertEqual(parting(early, other, ()), (100, ("told", 3), ("told", 4)))
        self.assertTrue(tells(early, other, ()))
        late = ((), 0, (SKIP,) * 100 + (("tell", number(3)),))
        other = fake_of(late, 100, ("tell", number(4)))
        self.assertIsNone(parting(late, other, ()))
        self.assertFalse(tells(late, other, ()))
        self.assertEqual(parting(late, other, (), 101), (101, ("told", 3), ("told", 4)))
        self.assertTrue(tells(late, other, (), 101))


class BothTest(unittest.TestCase):
    def test_of_many_programs(self):
        for seed, program in enumerate(some_programs(50, 40)):
            for inputs in some_inputs(seed, 2, len(program[0])):
                for k, word, row in fakes(program):
                    other = fake_of(program, k, row)
                    one_trail = trail(program, inputs, 30)
                    other_trail = trail(other, inputs, 30)
                    told = parting(program, other, inputs, 30)
                    self.assertTrue(kinds_are_plain(told))
                    self.assertEqual(told is None, one_trail == other_trail)
                    if told is not None:
                        n = told[0]
                        self.assertEqual(one_trail[:n], other_trail[:n])
                        self.assertEqual(told, (n, one_trail[n], other_trail[n]))
                        self.assertNotEqual(told[1], told[2])
                    unlike = outcome(program, inputs, 30) != outcome(other, inputs, 30)
                    self.assertIs(tells(program, other, inputs, 30), unlike)
                    if unlike:
                        self.assertIsNotNone(told)


if __name__ == "__main__":
    unittest.main()
