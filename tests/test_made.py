import itertools
import unittest

from fakehunt.fakes import fake_of, fakes
from fakehunt.machine import moved, trail
from fakehunt.made import made, made_row
from samples import (
    HIGH, IF_SIGNS, LOW, NOTHING, PUT_SIGNS, SKIP, SUMMING, kinds_are_plain, name, number, some_inputs, some_programs,
)

A = name(0)
B = name(1)
EDGES = (LOW, LOW + 1, -2, -1, 0, 1, 2, HIGH - 1, HIGH)


def put(x, y, sign, z):
    return ("put", x, y, sign, z)


def to_five(y, sign, z):
    return ("if", y, sign, z, 5)


class RowTest(unittest.TestCase):
    def check(self, row, answer, k=0):
        with self.subTest(row=row, k=k):
            self.assertEqual(made_row(row, k), answer)
            self.assertEqual(made_row(answer, k), answer)
            self.assertTrue(kinds_are_plain(made_row(row, k)))

    def stays(self, row, k=0):
        self.check(row, row, k)


class MadePutTest(RowTest):
    def test_a_two_numbers(self):
        for y, sign, z, c in (
            (4, "+", 5, 9), (4, "-", 5, -1), (4, "*", 5, 20), (9, "/", 2, 4), (-9, "/", 2, -5), (9, "mod", 4, 1),
            (7, "/", 0, 0), (7, "mod", 0, 7), (HIGH, "+", 1, LOW), (LOW, "-", 1, HIGH), (LOW, "/", -1, LOW),
            (0, "+", 0, 0), (0, "*", 5, 0), (5, "*", 1, 5), (0, "+", 5, 5), (5, "mod", 1, 0), (3, "-", 3, 0),
        ):
            self.check(put(1, number(y), sign, number(z)), put(1, number(c), "+", number(0)))

    def test_a_no_other_turn_changes_it(self):
        self.stays(put(0, number(5), "+", number(0)))
        self.stays(put(0, number(HIGH), "+", number(0)))
        self.stays(put(0, number(0), "+", number(0)))

    def test_b_a_number_less_is_a_number_more(self):
        self.check(put(1, A, "-", number(3)), put(1, A, "+", number(-3)))
        self.check(put(1, A, "-", number(-3)), put(1, A, "+", number(3)))
        self.check(put(1, A, "-", number(0)), put(1, A, "+", number(0)))
        self.check(put(1, A, "-", number(HIGH)), put(1, A, "+", number(LOW + 1)))
        self.check(put(1, A, "-", number(LOW + 1)), put(1, A, "+", number(HIGH)))

    def test_b_the_lowest_is_brought_round(self):
        self.check(put(1, A, "-", number(LOW)), put(1, A, "+", number(LOW)))

    def test_b_not_a_name_less(self):
        self.stays(put(1, number(3), "-", A))
        self.stays(put(1, number(0), "-", A))
        self.stays(put(1, A, "-", B))
        self.stays(put(1, B, "-", A))

    def test_c_the_lesser_operand_first(self):
        for sign in ("+", "*"):
            self.check(put(2, B, sign, A), put(2, A, sign, B))
            self.stays(put(2, A, sign, B))
            self.stays(put(2, A, sign, A))
            self.check(put(2, number(-7), sign, A), put(2, A, sign, number(-7)))
            self.check(put(2, number(LOW), sign, name(4)), put(2, name(4), sign, number(LOW)))
            self.stays(put(2, name(4), sign, number(-7)))

    def test_c_not_in_other_signs(self):
        for sign in ("/", "mod", "-"):
            self.stays(put(2, B, sign, A))
            self.stays(put(2, number(7), sign, A))

    def test_d_what_is_nought(self):
        nought = put(1, number(0), "+", number(0))
        self.check(put(1, A, "*", number(0)), nought)
        self.check(put(1, number(0), "*", A), nought)
        self.check(put(1, A, "mod", number(1)), nought)
        self.check(put(1, A, "-", A), nought)
        self.check(put(0, A, "-", A), put(0, number(0), "+", number(0)))
        self.check(put(0, A, "*", number(0)), put(0, number(0), "+", number(0)))

    def test_d_what_is_not_told_stays(self):
        for row in (
            put(1, number(1), "mod", A), put(1, A, "mod", number(0)), put(1, A, "mod", number(-1)),
            put(1, A, "mod", A), put(1, A, "/", A), put(1, A, "/", number(0)), put(1, number(0), "/", A),
            put(1, number(0), "mod", A), put(1, A, "mod", number(2)), put(1, A, "*", number(2)),
            put(1, A, "*", number(-1)), put(1, A, "/", number(-1)), put(1, number(1), "/", A), put(1, A, "+", A),
        ):
            self.stays(row)

    def test_d_what_is_the_other_operand(self):
        self.check(put(1, A, "*", number(1)), put(1, A, "+", number(0)))
        self.check(put(1, number(1), "*", A), put(1, A, "+", number(0)))
        self.check(put(1, A, "/", number(1)), put(1, A, "+", number(0)))
        self.stays(put(1, A, "+", number(0)))

    def test_e_a_name_to_itself(self):
        for row in (
            put(0, A, "+", number(0)), put(0, number(0), "+", A), put(0, A, "-", number(0)), put(0, A, "*", number(1)),
            put(0, number(1), "*", A), put(0, A, "/", number(1)),
        ):
            self.check(row, SKIP)
        for x in range(5):
            self.check(put(x, name(x), "+", number(0)), SKIP)

    def test_e_not_others(self):
        self.stays(put(1, A, "+", number(0)))
        self.stays(put(0, A, "+", number(1)))
        self.check(put(0, number(0), "-", A), put(0, number(0), "-", A))
        self.check(put(0, number(0), "+", number(0)), put(0, number(0), "+", number(0)))

    def test_several_turns(self):
        self.check(put(2, number(0), "+", B), put(2, B, "+", number(0)))
        self.check(put(1, number(0), "+", B), SKIP)
        self.check(put(3, B, "-", number(1)), put(3, B, "+", number(-1)))

    def test_k_does_not_matter(self):
        for k in (0, 4, 11):
            self.check(put(1, B, "*", A), put(1, A, "*", B), k)


class MadeIfTest(RowTest):
    def test_f_to_the_next_place(self):
        for y, z in ((A, B), (A, A), (number(1), number(2)), (A, number(HIGH))):
            for sign in IF_SIGNS:
                for k in (0, 3, 11):
                    self.check(("if", y, sign, z, k + 1), SKIP, k)

    def test_f_not_to_other_places(self):
        self.stays(("if", A, "<", B, 4), 4)
        self.stays(("if", A, "<", B, 6), 4)
        self.stays(("if", A, "<", B, 0), 0)

    def test_g_greater_is_less(self):
        self.check(to_five(A, ">", B), to_five(B, "<", A))
        self.check(to_five(A, ">=", B), to_five(B, "<=", A))
        self.check(to_five(B, ">", A), to_five(A, "<", B))
        self.check(to_five(A, ">", number(3)), to_five(number(3), "<", A))
        self.check(to_five(number(3), ">", A), to_five(A, "<", number(3)))
        self.stays(to_five(A, "<", B))
        self.stays(to_five(B, "<", A))
        self.stays(to_five(A, "<=", B))
        self.stays(to_five(B, "<=", A))

    def test_h_two_numbers(self):
        below = {"<": 1, "<=": 1, "=": 0, ">=": 0, ">": 0, "!=": 1}
        alike = {"<": 0, "<=": 1, "=": 1, ">=": 1, ">": 0, "!=": 0}
        above = {"<": 0, "<=": 0, "=": 0, ">=": 1, ">": 1, "!=": 1}
        for so, y, z in ((below, 3, 4), (alike, 3, 3), (above, 4, 3), (below, LOW, HIGH), (above, HIGH, LOW)):
            for sign in IF_SIGNS:
                self.check(to_five(number(y), sign, number(z)), ("go", 5) if so[sign] else SKIP)

    def test_h_twice_the_same_name(self):
        for operand in (A, B, name(4)):
            for sign in ("<=", ">=", "="):
                self.check(to_five(operand, sign, operand), ("go", 5))
            for sign in ("<", ">", "!="):
                self.check(to_five(operand, sign, operand), SKIP)

    def test_h_a_name_and_a_number_with_its_number(self):
        self.stays(to_five(B, "=", number(1)))
        self.stays(to_five(B, "<", number(1)))

    def test_i_the_lesser_operand_first(self):
        for sign in ("=", "!="):
            self.check(to_five(B, sign, A), to_five(A, sign, B))
            self.stays(to_five(A, sign, B))
            self.check(to_five(number(-4), sign, name(3)), to_five(name(3), sign, number(-4)))
            self.stays(to_five(name(3), sign, number(-4)))

    def test_j_at_most_a_number(self):
        self.check(to_five(A, "<=", number(3)), to_five(A, "<", number(4)))
        self.check(to_five(A, "<=", number(-1)), to_five(A, "<", number(0)))
        self.check(to_five(A, "<=", number(LOW)), to_five(A, "<", number(LOW + 1)))
        self.check(to_five(A, "<=", number(HIGH - 1)), to_five(A, "<", number(HIGH)))
        self.stays(to_five(A, "<=", number(HIGH)))

    def test_j_at_least_a_number(self):
        self.check(to_five(number(3), "<=", A), to_five(number(2), "<", A))
        self.check(to_five(number(0), "<=", A), to_five(number(-1), "<", A))
        self.check(to_five(number(HIGH), "<=", A), to_five(number(HIGH - 1), "<", A))
        self.check(to_five(number(LOW + 1), "<=", A), to_five(number(LOW), "<", A))
        self.stays(to_five(number(LOW), "<=", A))

    def test_j_not_below(self):
        self.stays(to_five(A, "<", number(3)))
        self.stays(to_five(number(3), "<", A))

    def test_several_turns(self):
        self.check(to_five(A, ">=", number(3)), to_five(number(2), "<", A))
        self.check(to_five(number(3), ">=", A), to_five(A, "<", number(4)))
        self.check(to_five(A, ">=", number(LOW)), to_five(number(LOW), "<=", A))
        self.check(to_five(number(HIGH), ">=", A), to_five(A, "<=", number(HIGH)))


class MadeOthersTest(RowTest):
    def test_go(self):
        for k in (0, 4, 11):
            self.check(("go", k + 1), SKIP, k)
            self.stays(("go", k), k)
            self.stays(("go", k + 2), k)
            if k:
                self.stays(("go", k - 1), k)

    def test_tell_and_skip(self):
        for k in (0, 4):
            self.stays(("tell", A), k)
            self.stays(("tell", number(1)), k)
            self.stays(("tell", number(LOW)), k)
            self.stays(SKIP, k)


class MadeTest(unittest.TestCase):
    def test_a_program(self):
        self.assertEqual(made(SUMMING), (((0, 9),), 2, (
            ("if", A, "<", number(1), 4),
            ("put", 1, A, "+", B),
            ("put", 0, A, "+", number(-1)),
            ("go", 0),
            ("tell", B),
        )))

    def test_each_row_by_its_own_place(self):
        program = ((), 0, (("go", 1), ("go", 1), ("go", 1), ("go", 4)))
        self.assertEqual(made(program), ((), 0, (SKIP, ("go", 1), ("go", 1), SKIP)))

    def test_nothing(self):
        self.assertEqual(made(NOTHING), NOTHING)

    def test_what_is_made_is_made_to_itself(self):
        for program in some_programs(30, 400):
            self.assertEqual(made(made(program)), made(program))

    def test_trails_stay(self):
        for seed, program in enumerate(some_programs(31, 300)):
            for inputs in some_inputs(seed, 6, len(program[0])):
                for limit in (0, 1, 7, 60):
                    with self.subTest(program=program, inputs=inputs, limit=limit):
                        self.assertEqual(trail(made(program), inputs, limit), trail(program, inputs, limit))

    def rows_at_the_edges(self):
        operands = [name(0), name(1)] + [number(c) for c in EDGES]
        for y, z in itertools.product(operands, operands):
            for sign in PUT_SIGNS:
                yield put(0, y, sign, z)
                yield put(2, y, sign, z)
            for sign in IF_SIGNS:
                yield ("if", y, sign, z, 1)
                yield ("if", y, sign, z, 3)

    def test_rows_at_the_edges_move_as_before_and_are_made_to_themselves(self):
        states = [(0, (a, b, 7)) for a in EDGES for b in (LOW, -1, 0, 1, HIGH)]
        for row in self.rows_at_the_edges():
            answer = made_row(row, 0)
            self.assertEqual(made_row(answer, 0), answer)
            one = ((), 3, (row, SKIP, SKIP))
            other = fake_of(one, 0, answer)
            for state in states:
                self.assertEqual(moved(one, state), moved(other, state), row)

    def test_fakes_too(self):
        for program in some_programs(32, 20):
            for k, word, row in fakes(program):
                other = fake_of(program, k, row)
                self.assertEqual(made(other), fake_of(made(program), k, made_row(row, k)))


if __name__ == "__main__":
    unittest.main()
