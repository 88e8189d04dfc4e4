import unittest

from fakehunt.fakes import fake_of, fakes
from fakehunt.machine import outcome
from samples import HIGH, LOW, NOTHING, SKIP, SUMMING, kinds_are_plain, name, number, some_programs

ORDER = ("sign", "more", "turn", "out", "swap", "far")


class FakesTest(unittest.TestCase):
    def test_each_kind_of_row(self):
        program = (((0, 9),), 2, (
            ("put", 1, name(0), "mod", number(HIGH)),
            ("if", number(3), "<", number(4), 4),
            ("go", 2),
            ("tell", name(1)),
            ("tell", number(7)),
            SKIP,
            ("if", name(0), "!=", name(0), 7),
        ))
        self.assertEqual(fakes(program), (
            (0, "sign", ("put", 1, name(0), "+", number(HIGH))),
            (0, "more", ("put", 1, name(0), "mod", number(LOW))),
            (0, "out", SKIP),
            (0, "swap", ("put", 1, number(HIGH), "mod", name(0))),
            (1, "sign", ("if", number(3), "<=", number(4), 4)),
            (1, "more", ("if", number(4), "<", number(4), 4)),
            (1, "more", ("if", number(3), "<", number(5), 4)),
            (1, "turn", ("if", number(3), ">=", number(4), 4)),
            (1, "out", SKIP),
            (1, "swap", ("if", number(4), "<", number(3), 4)),
            (1, "far", ("if", number(3), "<", number(4), 5)),
            (2, "out", SKIP),
            (2, "far", ("go", 3)),
            (3, "out", SKIP),
            (4, "more", ("tell", number(8))),
            (4, "out", SKIP),
            (6, "sign", ("if", name(0), "<", name(0), 7)),
            (6, "turn", ("if", name(0), "=", name(0), 7)),
            (6, "out", SKIP),
        ))

    def test_a_whole_program(self):
        self.assertEqual(fakes(SUMMING), (
            (0, "sign", ("if", name(0), "=", number(0), 4)),
            (0, "more", ("if", name(0), "<=", number(1), 4)),
            (0, "turn", ("if", name(0), ">", number(0), 4)),
            (0, "out", SKIP),
            (0, "swap", ("if", number(0), "<=", name(0), 4)),
            (0, "far", ("if", name(0), "<=", number(0), 5)),
            (1, "sign", ("put", 1, name(1), "-", name(0))),
            (1, "out", SKIP),
            (1, "swap", ("put", 1, name(0), "+", name(1))),
            (2, "sign", ("put", 0, name(0), "*", number(1))),
            (2, "more", ("put", 0, name(0), "-", number(2))),
            (2, "out", SKIP),
            (2, "swap", ("put", 0, number(1), "-", name(0))),
            (3, "out", SKIP),
            (3, "far", ("go", 1)),
            (4, "out", SKIP),
        ))

    def test_none(self):
        self.assertEqual(fakes(NOTHING), ())
        self.assertEqual(fakes((((0, 1),), 5, ())), ())
        self.assertEqual(fakes(((), 0, (SKIP,))), ())
        self.assertEqual(fakes((((0, 1),), 3, (SKIP,) * 12)), ())

    def test_no_two_of_one_place_are_alike_and_none_is_the_programs_own(self):
        for program in some_programs(20, 300):
            told = fakes(program)
            self.assertTrue(kinds_are_plain(told))
            codes = [(k, row) for k, word, row in told]
            self.assertEqual(len(codes), len(set(codes)))
            for k, word, row in told:
                self.assertNotEqual(row, program[2][k])

    def test_row_by_row_and_kind_by_kind(self):
        for program in some_programs(21, 100):
            places = [(k, ORDER.index(word)) for k, word, row in fakes(program)]
            self.assertEqual(places, sorted(places))


class FakeOfTest(unittest.TestCase):
    def test_row_is_put_otherwise(self):
        for k in range(5):
            other = fake_of(SUMMING, k, ("tell", number(8)))
            self.assertEqual(other[:2], SUMMING[:2])
            self.assertEqual(other[2], SUMMING[2][:k] + (("tell", number(8)),) + SUMMING[2][k + 1:])
            self.assertTrue(kinds_are_plain(other))

    def test_the_program_itself_stays(self):
        before = repr(SUMMING)
        fake_of(SUMMING, 4, SKIP)
        self.assertEqual(repr(SUMMING), before)
        self.assertEqual(outcome(SUMMING, (3,)), ("told", 6))
        self.assertEqual(outcome(fake_of(SUMMING, 4, SKIP), (3,)), ("none",))

    def test_one_row(self):
        self.assertEqual(fake_of(((), 0, (SKIP,)), 0, ("go", 1)), ((), 0, (("go", 1),)))


if __name__ == "__main__":
    unittest.main()
