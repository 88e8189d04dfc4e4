import unittest

from fakehunt.bits import bits_of
from fakehunt.errors import HuntError, TextError, TooMany, TooWide
from fakehunt.fakes import fake_of, fakes
from fakehunt.sides import tells
from samples import (
    GREATER, NOTHING, SKIP, SUMMING, kinds_are_plain, name, number, some_inputs, some_programs,
)


class BitsOfTest(unittest.TestCase):
    def test_a_whole_program(self):
        self.assertEqual([word for k, word, row in fakes(GREATER)],
                         ["sign", "turn", "out", "swap", "far", "out", "out"])
        self.assertEqual(bits_of(GREATER, ((1, 2), (2, 1), (2, 2))), (0, 3, 1, 3, 1, 2, 1))

    def test_the_number_of_a_trial_is_its_bit(self):
        program = (((0, 9),), 1, (("tell", name(0)),))
        self.assertEqual(bits_of(program, ((1,), (2,), (3,))), (7,))
        program = (((0, 9),), 1, (("if", name(0), "!=", number(4), 2), ("tell", number(1))))
        self.assertEqual(fakes(program)[-1], (1, "out", SKIP))
        for i in range(10):
            trials = tuple((4 if k == i else 0,) for k in range(10))
            self.assertEqual(bits_of(program, trials)[-1], 2 ** i)

    def test_no_trials(self):
        self.assertEqual(bits_of(SUMMING, ()), (0,) * 16)
        self.assertEqual(bits_of(NOTHING, ()), ())

    def test_trials_alike(self):
        one = bits_of(SUMMING, ((3,),))
        three = bits_of(SUMMING, ((3,), (3,), (3,)))
        self.assertEqual(three, tuple(bits * 7 for bits in one))

    def test_no_fakes(self):
        self.assertEqual(bits_of(NOTHING, ((),)), ())
        self.assertEqual(bits_of((((0, 1),), 1, (SKIP, SKIP)), ((0,), (1,))), ())

    def test_ten_and_eleven_trials(self):
        ten = tuple((i,) for i in range(10))
        self.assertEqual(len(bits_of(SUMMING, ten)), 16)
        self.assertEqual(bits_of(SUMMING, ten)[15], 1023)
        for many in (11, 12, 40):
            for program in (SUMMING, (((0, 9),), 1, ())):
                with self.assertRaises(TooMany) as taken:
                    bits_of(program, ((1,),) * many)
                self.assertEqual(taken.exception.number, many)
                self.assertIsInstance(taken.exception, HuntError)
                self.assertNotIsInstance(taken.exception, (TextError, TooWide))

    def test_the_limit_nought(self):
        self.assertEqual(bits_of(SUMMING, ((0,), (1,)), 0), (0,) * 16)

    def test_a_limit(self):
        program = ((), 0, (SKIP, ("tell", number(3))))
        self.assertEqual(bits_of(program, ((),), 1), (0, 0))
        self.assertEqual(bits_of(program, ((),), 2), (1, 1))

    def test_the_limit_left_out_is_one_hundred(self):
        early = ((), 0, (SKIP,) * 99 + (("tell", number(3)),))
        late = ((), 0, (SKIP,) * 100 + (("tell", number(3)),))
        self.assertEqual(bits_of(early, ((),)), (1, 1))
        self.assertEqual(bits_of(late, ((),)), (0, 0))
        self.assertEqual(bits_of(late, ((),), 101), (1, 1))

    def test_inputs_outside_the_stretches(self):
        self.assertEqual(bits_of((((0, 1),), 1, (("tell", name(0)),)), ((-7,), (88,))), (3,))

    def test_of_many_programs(self):
        for seed, program in enumerate(some_programs(82, 25)):
            trials = tuple(some_inputs(seed, seed % 11, len(program[0])))
            told = bits_of(program, trials, 20)
            self.assertTrue(kinds_are_plain(told))
            for (k, word, row), bits in zip(fakes(program), told, strict=True):
                other = fake_of(program, k, row)
                self.assertEqual(bits, sum(2 ** i for i, inputs in enumerate(trials)
                                           if tells(program, other, inputs, 20)))


if __name__ == "__main__":
    unittest.main()
