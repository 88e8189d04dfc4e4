import unittest

from fakehunt.fakes import fake_of
from fakehunt.made import made
from fakehunt.pairs import follow
from samples import NOTHING, SKIP, SUMMING, kinds_are_plain, name, number, some_programs

A = name(0)
B = name(1)
ADD = ("put", 0, A, "+", B)


def of_row(row):
    """A program of three names with the row at place 2, amidst others."""
    return ((), 3, (SKIP, SKIP, row, SKIP, SKIP))


class FollowTest(unittest.TestCase):
    def check(self, row, beside, bits, answer):
        with self.subTest(row=row, beside=beside, bits=bits):
            self.assertEqual(follow(of_row(row), of_row(beside), 2, 2, bits), answer)

    def both(self, row, beside, bits, answer):
        self.check(row, beside, bits, answer)
        self.check(beside, row, bits, answer)

    def test_two_ends(self):
        self.assertEqual(follow(NOTHING, NOTHING, 0, 0, 0), ())
        self.assertEqual(follow(SUMMING, SUMMING, 5, 5, 3), ())
        self.assertEqual(follow(SUMMING, SUMMING, 5, 5, 0), ())
        self.assertEqual(follow(((), 2, ()), SUMMING, 0, 5, 0), ())

    def test_an_end_and_a_row(self):
        for k in range(5):
            self.assertIsNone(follow(SUMMING, SUMMING, 5, k, 3))
            self.assertIsNone(follow(SUMMING, SUMMING, k, 5, 3))

    def test_two_tells_of_a_number(self):
        self.check(("tell", number(1)), ("tell", number(1)), 0, ())
        self.check(("tell", number(1)), ("tell", number(1)), 7, ())
        self.both(("tell", number(1)), ("tell", number(2)), 7, None)

    def test_two_tells_of_a_name(self):
        for bits in range(8):
            self.check(("tell", B), ("tell", B), bits, () if bits & 2 else None)
            self.check(("tell", A), ("tell", A), bits, () if bits & 1 else None)
            self.check(("tell", name(2)), ("tell", name(2)), bits, () if bits & 4 else None)

    def test_two_tells_of_unlike_operands(self):
        self.both(("tell", A), ("tell", B), 7, None)
        self.both(("tell", A), ("tell", number(0)), 7, None)
        self.both(("tell", B), ("tell", number(1)), 7, None)

    def test_a_tell_and_another_row(self):
        for row in (SKIP, ("go", 0), ADD, ("if", A, "<", B, 0), ("put", 0, number(1), "+", number(0))):
            self.both(("tell", A), row, 7, None)
            self.both(("tell", number(1)), row, 7, None)

    def test_two_ifs_that_choose_alike(self):
        row = ("if", A, "<", B, 5)
        self.check(row, row, 7, ((5, 5, 7), (3, 3, 7)))
        self.check(row, row, 3, ((5, 5, 3), (3, 3, 3)))
        self.check(row, ("if", A, "<", B, 0), 3, ((5, 0, 3), (3, 3, 3)))
        self.check(("if", A, "<", B, 0), row, 3, ((0, 5, 3), (3, 3, 3)))
        row = ("if", A, "!=", number(4), 0)
        self.check(row, row, 1, ((0, 0, 1), (3, 3, 1)))

    def test_two_ifs_by_names_that_are_not_in_the_bits(self):
        row = ("if", A, "<", B, 5)
        for bits in (0, 1, 2, 4, 5, 6):
            self.check(row, row, bits, ((5, 5, bits), (5, 3, bits), (3, 5, bits), (3, 3, bits)))
        row = ("if", number(4), "<", A, 0)
        self.check(row, row, 6, ((0, 0, 6), (0, 3, 6), (3, 0, 6), (3, 3, 6)))

    def test_two_ifs_unlike(self):
        row = ("if", A, "<", B, 5)
        for other in (("if", B, "<", A, 0), ("if", A, "=", B, 0), ("if", A, "<", number(1), 0)):
            self.check(row, other, 7, ((5, 0, 7), (5, 3, 7), (3, 0, 7), (3, 3, 7)))
            self.check(other, row, 7, ((0, 5, 7), (0, 3, 7), (3, 5, 7), (3, 3, 7)))

    def test_ifs_are_made_ahead(self):
        self.check(("if", A, "<=", number(3), 5), ("if", number(4), ">", A, 0), 1, ((5, 0, 1), (3, 3, 1)))
        self.check(("if", B, "=", A, 5), ("if", A, "=", B, 5), 3, ((5, 5, 3), (3, 3, 3)))
        self.check(("if", A, "=", A, 5), ("go", 4), 0, ((5, 4, 0),))
        self.check(("if", A, "<", A, 5), SKIP, 0, ((3, 3, 0),))

    def test_an_if_and_another_row(self):
        row = ("if", A, "<", B, 5)
        self.check(row, SKIP, 6, ((5, 3, 6), (3, 3, 6)))
        self.check(SKIP, row, 6, ((3, 5, 6), (3, 3, 6)))
        self.check(row, ("go", 0), 7, ((5, 0, 7), (3, 0, 7)))
        self.check(("go", 0), row, 7, ((0, 5, 7), (0, 3, 7)))
        self.check(row, ADD, 7, ((5, 3, 6), (3, 3, 6)))
        self.check(ADD, row, 7, ((3, 5, 6), (3, 3, 6)))

    def test_an_if_to_the_next_place(self):
        row = ("if", A, "<", B, 3)
        self.check(row, row, 7, ((3, 3, 7),))
        self.check(row, row, 0, ((3, 3, 0),))
        self.check(row, SKIP, 1, ((3, 3, 1),))
        self.check(row, ("if", A, "<", B, 5), 7, ((3, 5, 7), (3, 3, 7)))
        self.check(("if", A, "<", B, 5), row, 7, ((5, 3, 7), (3, 3, 7)))

    def test_each_is_made_by_its_own_place(self):
        one = ((), 2, (("if", A, "<", B, 2), ("if", A, "<", B, 2), SKIP))
        self.assertEqual(follow(one, one, 0, 0, 3), ((2, 2, 3), (1, 1, 3)))
        self.assertEqual(follow(one, one, 1, 1, 3), ((2, 2, 3),))
        self.assertEqual(follow(one, one, 0, 1, 3), ((2, 2, 3), (1, 2, 3)))
        self.assertEqual(follow(one, one, 1, 0, 3), ((2, 2, 3), (2, 1, 3)))

    def test_two_puts_alike_that_read_names_in_the_bits(self):
        row = ("put", 2, A, "-", B)
        self.check(row, row, 3, ((3, 3, 7),))
        self.check(row, row, 7, ((3, 3, 7),))
        row = ("put", 0, A, "+", number(1))
        self.check(row, row, 1, ((3, 3, 1),))
        row = ("put", 1, number(4), "+", number(5))
        self.check(row, row, 0, ((3, 3, 2),))

    def test_two_puts_alike_that_read_others(self):
        row = ("put", 2, A, "-", B)
        for bits, left in ((0, 0), (1, 1), (2, 2), (4, 0), (5, 1), (6, 2)):
            self.check(row, row, bits, ((3, 3, left),))
        row = ("put", 0, A, "+", number(1))
        self.check(row, row, 6, ((3, 3, 6),))

    def test_two_puts_unlike(self):
        row = ("put", 2, A, "-", B)
        self.both(row, ("put", 1, A, "-", B), 7, ((3, 3, 1),))
        self.both(row, ("put", 2, B, "-", A), 7, ((3, 3, 3),))
        self.both(row, ("put", 2, A, "mod", B), 7, ((3, 3, 3),))
        self.both(row, ("put", 2, A, "-", A), 7, ((3, 3, 3),))

    def test_puts_are_made_ahead(self):
        self.both(("put", 2, A, "-", number(1)), ("put", 2, number(-1), "+", A), 1, ((3, 3, 5),))
        self.both(("put", 2, number(2), "*", number(3)), ("put", 2, number(7), "-", number(1)), 0, ((3, 3, 4),))
        self.both(("put", 1, A, "-", A), ("put", 1, A, "*", number(0)), 0, ((3, 3, 2),))
        self.both(("put", 0, A, "*", number(1)), SKIP, 7, ((3, 3, 7),))
        self.both(("put", 0, A, "*", number(1)), SKIP, 0, ((3, 3, 0),))

    def test_a_put_and_another_row(self):
        self.both(ADD, SKIP, 7, ((3, 3, 6),))
        self.both(ADD, SKIP, 6, ((3, 3, 6),))
        self.check(ADD, ("go", 0), 7, ((3, 0, 6),))
        self.check(("go", 0), ADD, 7, ((0, 3, 6),))

    def test_rows_that_put_nothing(self):
        for bits in range(8):
            self.check(SKIP, SKIP, bits, ((3, 3, bits),))
            self.check(("go", 0), ("go", 5), bits, ((0, 5, bits),))
            self.check(SKIP, ("go", 2), bits, ((3, 2, bits),))
            self.check(("go", 3), SKIP, bits, ((3, 3, bits),))

    def test_to_the_end(self):
        one = ((), 1, (SKIP,))
        other = ((), 1, (("go", 2), SKIP))
        self.assertEqual(follow(one, other, 0, 0, 1), ((1, 2, 1),))
        self.assertEqual(follow(one, other, 0, 1, 1), ((1, 2, 1),))

    def test_no_pair_twice_and_made_code_alike(self):
        programs = some_programs(60, 60, names=3, takes=0)
        for one, other in zip(programs, programs[1:]):
            for k in range(len(one[2]) + 1):
                for j in range(len(other[2]) + 1):
                    for bits in (0, 3, 5, 7):
                        told = follow(one, other, k, j, bits)
                        self.assertTrue(kinds_are_plain(told))
                        self.assertEqual(told, follow(made(one), made(other), k, j, bits))
                        if told is not None:
                            self.assertEqual(len(told), len({triple[:2] for triple in told}))

    def test_nothing_hangs_on_other_rows(self):
        one = of_row(ADD)
        other = fake_of(one, 4, ("tell", A))
        self.assertEqual(follow(one, one, 2, 2, 3), follow(other, one, 2, 2, 3))


if __name__ == "__main__":
    unittest.main()
