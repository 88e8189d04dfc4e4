import unittest

from fakehunt.fakes import fake_of, fakes
from fakehunt.made import made
from fakehunt.twins import twins
from samples import NOTHING, SKIP, SUMMING, kinds_are_plain, name, number, some_programs

A = name(0)
B = name(1)


class TwinsTest(unittest.TestCase):
    def test_none(self):
        self.assertEqual(twins(NOTHING), ((), ()))
        self.assertEqual(twins(((), 3, (SKIP,) * 12)), ((), ()))

    def test_the_programs_own_made_code(self):
        # a + b with its operands exchanged is made to the same row.
        program = ((), 2, (("put", 0, A, "+", B),))
        self.assertEqual([word for k, word, row in fakes(program)], ["sign", "out", "swap"])
        self.assertEqual(twins(program), ((2,), ((0,), (1,))))

    def test_all_of_the_programs_own(self):
        self.assertEqual(twins(((), 0, (("go", 1), SKIP))), ((0,), ((1,),)))
        self.assertEqual(twins(((), 0, (("go", 1),))), ((0,), ()))

    def test_a_group_of_several(self):
        # An if of two numbers that is not so, and skip, are made to the same row.
        program = ((), 0, (("if", number(3), "<", number(4), 2), ("tell", number(1))))
        self.assertEqual([word for k, word, row in fakes(program)],
                         ["sign", "more", "more", "turn", "out", "swap", "more", "out"])
        self.assertEqual(twins(program), ((0, 2), ((1, 3, 4, 5), (6,), (7,))))

    def test_groups_by_their_first_numbers(self):
        program = ((), 1, (("if", A, "=", A, 2), ("put", 0, A, "*", number(0)), ("go", 2)))
        self.assertEqual(fakes(program), (
            (0, "sign", ("if", A, ">=", A, 2)),
            (0, "turn", ("if", A, "!=", A, 2)),
            (0, "out", SKIP),
            (0, "far", ("if", A, "=", A, 3)),
            (1, "sign", ("put", 0, A, "/", number(0))),
            (1, "more", ("put", 0, A, "*", number(1))),
            (1, "out", SKIP),
            (1, "swap", ("put", 0, number(0), "*", A)),
            (2, "out", SKIP),
            (2, "far", ("go", 3)),
        ))
        self.assertEqual(twins(program), ((0, 7), ((1, 2), (3,), (4,), (5, 6), (8, 9))))

    def test_a_whole_program(self):
        same, groups = twins(SUMMING)
        self.assertEqual(same, (8,))
        self.assertEqual(groups, tuple((i,) for i in range(16) if i not in (8, 9, 11))[:8] + (
            (9, 11),) + ((10,), (12,), (13,), (14,), (15,)))

    def test_each_fake_once_and_by_its_made_code(self):
        for program in some_programs(40, 150):
            told = twins(program)
            self.assertTrue(kinds_are_plain(told))
            codes = [made(fake_of(program, k, row)) for k, word, row in fakes(program)]
            same, groups = told
            self.assertEqual(same, tuple(i for i, code in enumerate(codes) if code == made(program)))
            rest = [i for i in range(len(codes)) if i not in same]
            self.assertEqual(sorted(i for group in groups for i in group), rest)
            self.assertEqual([group[0] for group in groups], sorted(group[0] for group in groups))
            for group in groups:
                self.assertEqual(group, tuple(i for i in rest if codes[i] == codes[group[0]]))


if __name__ == "__main__":
    unittest.main()
