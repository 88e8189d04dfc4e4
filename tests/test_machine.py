import unittest

from fakehunt.machine import began, moved, outcome, seen, trail, worth
from samples import HIGH, LOW, NOTHING, SUMMING, name, number


def of_rows(*rows):
    return (((0, 9),), 2, rows)


def skips(many):
    return ((), 0, (("skip",),) * many)


class WorthTest(unittest.TestCase):
    def test_names(self):
        self.assertEqual(worth(name(0), (5, -6, 7)), 5)
        self.assertEqual(worth(name(1), (5, -6, 7)), -6)
        self.assertEqual(worth(name(2), (5, -6, 7)), 7)

    def test_numbers(self):
        for c in (LOW, -1, 0, 1, 2, HIGH):
            self.assertEqual(worth(number(c), (5, -6, 7)), c)
        self.assertEqual(worth(number(1), ()), 1)


class BeganTest(unittest.TestCase):
    def test_names_beyond_the_inputs_begin_with_nought(self):
        takes = ((0, 9), (-3, 3))
        self.assertEqual(began((takes, 2, ()), (4, -2)), (0, (4, -2)))
        self.assertEqual(began((takes, 5, ()), (4, -2)), (0, (4, -2, 0, 0, 0)))

    def test_nothing_taken(self):
        self.assertEqual(began(NOTHING, ()), (0, ()))
        self.assertEqual(began(((), 3, (("skip",),)), ()), (0, (0, 0, 0)))

    def test_inputs_outside_the_stretches(self):
        self.assertEqual(began((((0, 9),), 2, ()), (LOW,)), (0, (LOW, 0)))
        self.assertEqual(began((((0, 9),), 2, ()), (HIGH,)), (0, (HIGH, 0)))


class MovedTest(unittest.TestCase):
    def test_put(self):
        table = (
            ("+", 9), ("-", 5), ("*", 14), ("/", 3), ("mod", 1),
        )
        for sign, answer in table:
            program = of_rows(("put", 0, name(0), sign, name(1)))
            with self.subTest(sign=sign):
                self.assertEqual(moved(program, (0, (7, 2))), (1, (answer, 2)))

    def test_put_to_another_name_with_numbers(self):
        program = ((), 3, (("skip",), ("put", 1, number(10), "-", name(2)), ("put", 2, name(0), "*", number(-3))))
        self.assertEqual(moved(program, (1, (5, 6, 7))), (2, (5, 3, 7)))
        self.assertEqual(moved(program, (2, (5, 6, 7))), (3, (5, 6, -15)))

    def test_put_of_two_numbers(self):
        program = of_rows(("put", 1, number(4), "-", number(9)))
        self.assertEqual(moved(program, (0, (7, 2))), (1, (7, -5)))

    def test_put_is_brought_round_and_goes_by_nought(self):
        self.assertEqual(moved(of_rows(("put", 0, name(0), "+", number(1))), (0, (HIGH, 2))), (1, (LOW, 2)))
        self.assertEqual(moved(of_rows(("put", 0, name(0), "/", name(1))), (0, (7, 0))), (1, (0, 0)))
        self.assertEqual(moved(of_rows(("put", 0, name(0), "mod", name(1))), (0, (7, 0))), (1, (7, 0)))

    def test_if_taken_and_not_taken(self):
        taken = {
            "<": (True, False, False), "<=": (True, True, False), "=": (False, True, False),
            ">=": (False, True, True), ">": (False, False, True), "!=": (True, False, True),
        }
        for sign in taken:
            program = of_rows(("if", name(0), sign, name(1), 2), ("skip",), ("skip",), ("skip",))
            for first, so in zip((4, 5, 6), taken[sign]):
                with self.subTest(sign=sign, first=first):
                    self.assertEqual(moved(program, (0, (first, 5))), (2 if so else 1, (first, 5)))

    def test_if_with_numbers(self):
        program = of_rows(("skip",), ("if", number(3), "<", name(1), 0), ("if", number(1), "=", number(2), 0))
        self.assertEqual(moved(program, (1, (9, 4))), (0, (9, 4)))
        self.assertEqual(moved(program, (1, (9, 3))), (2, (9, 3)))
        self.assertEqual(moved(program, (2, (9, 3))), (3, (9, 3)))

    def test_if_to_the_end_back_and_to_itself(self):
        program = of_rows(("skip",), ("if", name(0), "=", number(1), 3), ("if", name(0), "=", number(1), 2))
        self.assertEqual(moved(program, (1, (1, 0))), (3, (1, 0)))
        self.assertEqual(moved(program, (2, (1, 0))), (2, (1, 0)))

    def test_go(self):
        program = of_rows(("go", 2), ("go", 0), ("go", 3))
        self.assertEqual(moved(program, (0, (8, 9))), (2, (8, 9)))
        self.assertEqual(moved(program, (1, (8, 9))), (0, (8, 9)))
        self.assertEqual(moved(program, (2, (8, 9))), (3, (8, 9)))

    def test_skip(self):
        program = of_rows(("skip",), ("skip",))
        self.assertEqual(moved(program, (0, (8, 9))), (1, (8, 9)))
        self.assertEqual(moved(program, (1, (8, 9))), (2, (8, 9)))

    def test_tell(self):
        program = of_rows(("tell", name(1)), ("tell", number(1)), ("tell", name(0)))
        self.assertEqual(moved(program, (0, (8, 9))), ("told", 9))
        self.assertEqual(moved(program, (1, (8, 9))), ("told", 1))
        self.assertEqual(moved(program, (2, (LOW, 9))), ("told", LOW))

    def test_the_end(self):
        self.assertEqual(moved(NOTHING, (0, ())), ("none",))
        self.assertEqual(moved(SUMMING, (5, (1, 2))), ("none",))


class TrailTest(unittest.TestCase):
    def test_a_run_that_tells(self):
        self.assertEqual(trail(SUMMING, (2,)), (
            (0, (2, 0)), (1, (2, 0)), (2, (2, 2)), (3, (1, 2)),
            (0, (1, 2)), (1, (1, 2)), (2, (1, 3)), (3, (0, 3)),
            (0, (0, 3)), (4, (0, 3)), ("told", 3),
        ))

    def test_a_tell_at_once(self):
        self.assertEqual(trail(of_rows(("tell", name(0))), (6,)), ((0, (6, 0)), ("told", 6)))

    def test_no_rows(self):
        for limit in (0, 1, 2, 200):
            self.assertEqual(trail(NOTHING, (), limit), ((0, ()), ("none",)))
        self.assertEqual(trail(NOTHING, ()), ((0, ()), ("none",)))

    def test_limit_nought(self):
        self.assertEqual(trail(skips(1), (), 0), ((0, ()), ("late",)))
        self.assertEqual(trail(of_rows(("tell", name(0))), (6,), 0), ((0, (6, 0)), ("late",)))

    def test_limit_one(self):
        self.assertEqual(trail(skips(1), (), 1), ((0, ()), (1, ()), ("none",)))
        self.assertEqual(trail(skips(2), (), 1), ((0, ()), (1, ()), ("late",)))
        self.assertEqual(trail(of_rows(("tell", name(0))), (6,), 1), ((0, (6, 0)), ("told", 6)))

    def test_the_end_just_at_the_limit(self):
        states = ((0, ()), (1, ()), (2, ()), (3, ()))
        self.assertEqual(trail(skips(3), (), 3), states + (("none",),))
        self.assertEqual(trail(skips(3), (), 4), states + (("none",),))
        self.assertEqual(trail(skips(3), (), 2), states[:3] + (("late",),))

    def test_told_by_the_last_row_that_the_limit_lets(self):
        program = ((), 0, (("skip",), ("skip",), ("tell", number(8))))
        states = ((0, ()), (1, ()), (2, ()))
        self.assertEqual(trail(program, (), 3), states + (("told", 8),))
        self.assertEqual(trail(program, (), 4), states + (("told", 8),))
        self.assertEqual(trail(program, (), 2), states + (("late",),))

    def test_a_loop_is_late(self):
        program = ((), 1, (("put", 0, name(0), "+", number(1)), ("go", 0)))
        self.assertEqual(trail(program, (), 3), ((0, (0,)), (1, (1,)), (0, (1,)), (1, (2,)), ("late",)))
        told = trail(program, (), 200)
        self.assertEqual(len(told), 202)
        self.assertEqual(told[-2:], ((0, (100,)), ("late",)))

    def test_the_limit_left_out_is_one_hundred(self):
        self.assertEqual(trail(skips(100), ())[-2:], ((100, ()), ("none",)))
        self.assertEqual(trail(skips(101), ())[-2:], ((100, ()), ("late",)))
        self.assertEqual(len(trail(skips(101), ())), 102)
        self.assertEqual(trail(skips(101), (), 101)[-2:], ((101, ()), ("none",)))

    def test_somewhat_beyond_the_bounds_nothing_is_refused(self):
        self.assertEqual(trail(skips(250), (), 250)[-2:], ((250, ()), ("none",)))
        wide = (((0, 1),) * 4, 7, (("put", 6, name(3), "+", name(0)), ("tell", name(6))))
        self.assertEqual(trail(wide, (1, 2, 3, 4)), (
            (0, (1, 2, 3, 4, 0, 0, 0)), (1, (1, 2, 3, 4, 0, 0, 5)), ("told", 5),
        ))

    def test_each_thing_is_the_one_ahead_of_it_moved(self):
        told = trail(SUMMING, (7,))
        self.assertEqual(told[0], began(SUMMING, (7,)))
        for one, other in zip(told, told[1:]):
            self.assertEqual(moved(SUMMING, one), other)

    def test_told_are_tuples_and_the_same_again(self):
        told = trail(SUMMING, (3,))
        self.assertIs(type(told), tuple)
        for state in told[:-1]:
            self.assertIs(type(state), tuple)
            self.assertIs(type(state[0]), int)
            self.assertIs(type(state[1]), tuple)
        self.assertEqual(trail(SUMMING, (4,))[-1], ("told", 10))
        self.assertEqual(trail(SUMMING, (3,)), told)

    def test_arguments_by_their_names(self):
        self.assertEqual(trail(program=SUMMING, inputs=(1,), limit=1), ((0, (1, 0)), (1, (1, 0)), ("late",)))


class OutcomeTest(unittest.TestCase):
    def test_told(self):
        for taken, answer in ((0, 0), (-5, 0), (1, 1), (2, 3), (9, 45)):
            self.assertEqual(outcome(SUMMING, (taken,)), ("told", answer))

    def test_none(self):
        self.assertEqual(outcome(NOTHING, ()), ("none",))
        self.assertEqual(outcome(NOTHING, (), 0), ("none",))
        self.assertEqual(outcome(skips(3), (), 3), ("none",))
        self.assertEqual(outcome(of_rows(("go", 2), ("tell", name(0))), (1,)), ("none",))

    def test_late(self):
        self.assertEqual(outcome(skips(1), (), 0), ("late",))
        self.assertEqual(outcome(skips(3), (), 2), ("late",))
        self.assertEqual(outcome(of_rows(("go", 0)), (1,), 200), ("late",))
        self.assertEqual(outcome(SUMMING, (2,), 9), ("late",))
        self.assertEqual(outcome(SUMMING, (2,), 10), ("told", 3))

    def test_the_limit_left_out_is_one_hundred(self):
        self.assertEqual(outcome(skips(100), ()), ("none",))
        self.assertEqual(outcome(skips(101), ()), ("late",))
        telling = ((), 0, (("skip",),) * 99 + (("tell", number(5)),))
        self.assertEqual(outcome(telling, ()), ("told", 5))
        later = ((), 0, (("skip",),) * 100 + (("tell", number(5)),))
        self.assertEqual(outcome(later, ()), ("late",))


class SeenTest(unittest.TestCase):
    def test_no_rows(self):
        self.assertEqual(seen(NOTHING, ()), 0)
        self.assertEqual(seen(NOTHING, (), 0), 0)

    def test_limits_nought_and_one(self):
        self.assertEqual(seen(SUMMING, (2,), 0), 0)
        self.assertEqual(seen(SUMMING, (2,), 1), 1)
        self.assertEqual(seen(of_rows(("tell", name(0))), (2,), 0), 0)
        self.assertEqual(seen(of_rows(("tell", name(0))), (2,), 1), 1)

    def test_the_end_is_no_row(self):
        self.assertEqual(seen(skips(3), ()), 7)
        self.assertEqual(seen(skips(3), (), 3), 7)

    def test_a_place_reached_but_not_done(self):
        self.assertEqual(seen(skips(3), (), 2), 3)
        self.assertEqual(seen(SUMMING, (0,), 1), 1)

    def test_a_tell_is_done(self):
        self.assertEqual(seen(SUMMING, (0,)), 1 + 16)
        self.assertEqual(seen(SUMMING, (0,), 2), 1 + 16)

    def test_each_place_once(self):
        self.assertEqual(seen(SUMMING, (5,)), 31)
        self.assertEqual(seen(of_rows(("skip",), ("go", 1)), (0,), 200), 3)
        self.assertEqual(seen(of_rows(("go", 2), ("skip",), ("go", 0)), (0,)), 5)

    def test_a_place_done_and_then_reached_late(self):
        self.assertEqual(seen(of_rows(("go", 0)), (0,), 1), 1)
        self.assertEqual(seen(SUMMING, (2,), 4), 15)

    def test_rows_jumped_over(self):
        program = of_rows(("if", name(0), ">", number(3), 3), ("skip",), ("go", 4), ("skip",), ("skip",))
        self.assertEqual(seen(program, (4,)), 1 + 8 + 16)
        self.assertEqual(seen(program, (3,)), 1 + 2 + 4 + 16)

    def test_twelve_rows(self):
        self.assertEqual(seen(skips(12), ()), 4095)
        self.assertIs(type(seen(skips(12), ())), int)

    def test_the_limit_left_out_is_one_hundred(self):
        self.assertEqual(seen(skips(100), ()), 2 ** 100 - 1)
        self.assertEqual(seen(skips(101), ()), 2 ** 100 - 1)
        self.assertEqual(seen(skips(101), (), 101), 2 ** 101 - 1)


if __name__ == "__main__":
    unittest.main()
