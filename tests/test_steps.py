import unittest

from fakehunt.steps import Far, More, Out, Sign, Step, Swap, Turn
from samples import HIGH, IF_SIGNS, LOW, PUT_SIGNS, SKIP, kinds_are_plain, name, number, some_programs

PUT = ("put", 0, name(0), "+", name(1))
IF = ("if", name(0), "<", name(1), 2)
GO = ("go", 2)
TELL = ("tell", name(0))


class StepsTest(unittest.TestCase):
    def check(self, step, row, *rows, many=5):
        with self.subTest(step=step.word(), row=row):
            self.assertEqual(step.turned(row, many), rows)

    def test_a_step_itself(self):
        self.assertEqual(Step().word(), "none")
        for row in (PUT, IF, GO, TELL, SKIP, ("tell", number(1))):
            self.check(Step(), row)

    def test_words(self):
        words = [step.word() for step in (Sign(), More(), Turn(), Out(), Swap(), Far())]
        self.assertEqual(words, ["sign", "more", "turn", "out", "swap", "far"])

    def test_all_stand_under_step(self):
        for kind in (Sign, More, Turn, Out, Swap, Far):
            self.assertEqual(kind.__bases__, (Step,))

    def test_sign_of_a_put(self):
        for sign, other in zip(PUT_SIGNS, ("-", "*", "/", "mod", "+")):
            self.check(Sign(), ("put", 1, name(0), sign, number(4)), ("put", 1, name(0), other, number(4)))

    def test_sign_of_an_if(self):
        for sign, other in zip(IF_SIGNS, ("<=", "=", ">=", ">", "!=", "<")):
            self.check(Sign(), ("if", name(0), sign, number(4), 3), ("if", name(0), other, number(4), 3))

    def test_sign_of_others(self):
        for row in (GO, TELL, SKIP):
            self.check(Sign(), row)

    def test_more_of_numbers_from_the_left(self):
        self.check(More(), ("put", 1, number(4), "-", number(9)),
                   ("put", 1, number(5), "-", number(9)), ("put", 1, number(4), "-", number(10)))
        self.check(More(), ("if", number(4), "<", number(9), 3),
                   ("if", number(5), "<", number(9), 3), ("if", number(4), "<", number(10), 3))
        self.check(More(), ("put", 1, number(4), "-", number(4)),
                   ("put", 1, number(5), "-", number(4)), ("put", 1, number(4), "-", number(5)))

    def test_more_of_one_number(self):
        self.check(More(), ("put", 1, name(0), "*", number(-1)), ("put", 1, name(0), "*", number(0)))
        self.check(More(), ("put", 1, number(-1), "*", name(0)), ("put", 1, number(0), "*", name(0)))
        self.check(More(), ("if", name(0), "=", number(0), 3), ("if", name(0), "=", number(1), 3))
        self.check(More(), ("if", number(0), "=", name(0), 3), ("if", number(1), "=", name(0), 3))
        self.check(More(), ("tell", number(6)), ("tell", number(7)))

    def test_more_is_brought_round(self):
        self.check(More(), ("tell", number(HIGH)), ("tell", number(LOW)))
        self.check(More(), ("tell", number(HIGH - 1)), ("tell", number(HIGH)))
        self.check(More(), ("tell", number(LOW)), ("tell", number(LOW + 1)))
        self.check(More(), ("put", 0, number(HIGH), "+", number(HIGH)),
                   ("put", 0, number(LOW), "+", number(HIGH)), ("put", 0, number(HIGH), "+", number(LOW)))
        self.check(More(), ("if", name(0), "<", number(HIGH), 1), ("if", name(0), "<", number(LOW), 1))

    def test_more_of_others(self):
        for row in (PUT, IF, GO, TELL, SKIP):
            self.check(More(), row)

    def test_turn(self):
        for sign, other in zip(IF_SIGNS, (">=", ">", "!=", "<", "<=", "=")):
            self.check(Turn(), ("if", name(0), sign, number(4), 3), ("if", name(0), other, number(4), 3))

    def test_turn_of_others(self):
        for row in (PUT, GO, TELL, SKIP):
            self.check(Turn(), row)

    def test_out(self):
        for row in (PUT, IF, GO, TELL, ("tell", number(0))):
            self.check(Out(), row, SKIP)
        self.check(Out(), SKIP)

    def test_swap(self):
        for sign in PUT_SIGNS:
            self.check(Swap(), ("put", 2, name(0), sign, name(1)), ("put", 2, name(1), sign, name(0)))
        for sign in IF_SIGNS:
            self.check(Swap(), ("if", name(0), sign, number(7), 3), ("if", number(7), sign, name(0), 3))
        self.check(Swap(), ("put", 2, number(3), "-", number(4)), ("put", 2, number(4), "-", number(3)))
        self.check(Swap(), ("put", 2, name(1), "-", number(1)), ("put", 2, number(1), "-", name(1)))
        self.check(Swap(), ("if", number(3), "<", number(4), 0), ("if", number(4), "<", number(3), 0))

    def test_swap_of_operands_alike(self):
        for operand in (name(0), number(0), number(LOW)):
            self.check(Swap(), ("put", 2, operand, "-", operand))
            self.check(Swap(), ("if", operand, "<", operand, 3))

    def test_swap_of_others(self):
        for row in (GO, TELL, SKIP, ("tell", number(1))):
            self.check(Swap(), row)

    def test_far(self):
        for place in range(5):
            self.check(Far(), ("go", place), ("go", place + 1))
            self.check(Far(), ("if", name(0), "<", number(2), place), ("if", name(0), "<", number(2), place + 1))

    def test_far_of_the_end(self):
        self.check(Far(), ("go", 5))
        self.check(Far(), ("if", name(0), "<", number(2), 5))
        self.check(Far(), ("go", 5), ("go", 6), many=6)
        self.check(Far(), ("go", 1), many=1)
        self.check(Far(), ("go", 0), ("go", 1), many=1)
        self.check(Far(), ("go", 12), many=12)

    def test_far_of_others(self):
        for row in (PUT, TELL, SKIP, ("tell", number(1)), ("put", 0, name(0), "+", number(1))):
            self.check(Far(), row)

    def test_told_are_tuples_of_rows_and_the_row_stays(self):
        for program in some_programs(11, 100):
            for row in program[2]:
                for step in (Sign(), More(), Turn(), Out(), Swap(), Far()):
                    rows = step.turned(row, len(program[2]))
                    self.assertTrue(kinds_are_plain(rows))
                    self.assertNotIn(row, rows)
                    self.assertEqual(len(set(rows)), len(rows))


if __name__ == "__main__":
    unittest.main()
