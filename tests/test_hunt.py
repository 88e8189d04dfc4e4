import itertools
import unittest

from fakehunt.bits import bits_of
from fakehunt.boxes import tried, width
from fakehunt.errors import TooMany
from fakehunt.fakes import fake_of, fakes
from fakehunt.hunt import more_trials, verdicts
from fakehunt.made import made
from fakehunt.papers import found_paper
from fakehunt.seeking import sought
from fakehunt.sides import parting, tells
from fakehunt.twins import twins
from fakehunt.walking import paper_kept
from samples import (
    GREATER, NOTHING, SKIP, SUMMING, kinds_are_plain, name, number, some_inputs, some_programs,
)

A = name(0)
B = name(1)

# Rows with a fake for each verdict: b is idle, and only inputs above 7 come to row 4.
ALL = (((0, 3),), 2, (
    ("put", 1, A, "+", A),
    ("put", 1, A, "*", B),
    ("if", number(7), "<", A, 4),
    ("tell", A),
    ("tell", number(5)),
))


def of_stretch(low, high):
    return (((low, high),),) + ALL[1:]


def verdict_of(program, k, row, trials, limit=100):
    for fake, told in zip(fakes(program), verdicts(program, trials, limit), strict=True):
        if (fake[0], fake[2]) == (k, row):
            return told


class VerdictsTest(unittest.TestCase):
    def test_no_fakes(self):
        self.assertEqual(verdicts(NOTHING, ()), ())
        self.assertEqual(verdicts((((0, 1),), 1, (SKIP,)), ((0,),)), ())

    def test_a_whole_program(self):
        self.assertEqual(verdicts(GREATER, ((1, 2),)), (
            ("table",),                 # a <= b: alike where both are the same number
            ("trial", 0, 1),            # a >= b
            ("trial", 0, 1),            # skip
            ("trial", 0, 1),            # b < a
            ("trial", 0, 1),            # to the end
            ("found", (-2, -3), 2),     # b is told in the place of a
            ("trial", 0, 2),            # nothing is told
        ))

    def test_same(self):
        self.assertEqual(verdict_of(ALL, 1, ("put", 1, B, "*", A), ()), ("same",))
        self.assertEqual(verdict_of(SUMMING, 1, ("put", 1, A, "+", B), ((3,),)), ("same",))
        self.assertEqual(verdict_of(((), 0, (("go", 1),)), 0, SKIP, ((),)), ("same",))

    def test_trial(self):
        self.assertEqual(verdict_of(ALL, 3, SKIP, ((1,), (2,))), ("trial", 0, 4))
        # By inputs outside the box, too, a trial may tell.
        self.assertEqual(verdict_of(ALL, 4, SKIP, ((1,), (8,), (9,))), ("trial", 1, 4))
        self.assertEqual(verdict_of(ALL, 2, ("if", number(8), "<", A, 4), ((7,), (9,), (8,), (8,))), ("trial", 2, 3))

    def test_paper(self):
        paper = ((0, 0, 3), (1, 1, 1), (2, 2, 1), (3, 3, 1), (4, 4, 1))
        self.assertEqual(verdict_of(ALL, 0, SKIP, ((1,), (8,))), ("paper", paper))
        self.assertEqual(verdict_of(ALL, 0, ("put", 1, A, "-", A), ()), ("paper", paper))

    def test_found(self):
        self.assertEqual(verdict_of(ALL, 3, SKIP, ()), ("found", (0,), 4))
        self.assertEqual(verdict_of(ALL, 3, SKIP, ((8,), (9,))), ("found", (0,), 4))
        wide = of_stretch(-100, 100)
        self.assertEqual(verdict_of(wide, 4, SKIP, ()), ("found", (100,), 4))
        self.assertEqual(verdict_of(((), 0, (("tell", number(1)),)), 0, SKIP, ()), ("found", (), 1))

    def test_table(self):
        self.assertEqual(verdict_of(ALL, 4, SKIP, ()), ("table",))
        self.assertEqual(verdict_of(ALL, 2, ("if", number(8), "<", A, 4), ()), ("table",))
        self.assertEqual(verdict_of(of_stretch(-56, 7), 4, SKIP, ()), ("table",))

    def test_unknown(self):
        self.assertEqual(verdict_of(of_stretch(-57, 7), 4, SKIP, ()), ("unknown",))
        # Only 8 would tell, and it is not tried.
        self.assertEqual(verdict_of(of_stretch(-100, 100), 2, ("if", number(8), "<", A, 4), ()), ("unknown",))
        self.assertEqual(verdict_of(of_stretch(-100, 100), 2, ("if", number(8), "<", A, 4), ((8,),)), ("trial", 0, 3))

    def test_which_goes_ahead(self):
        # The same made code has a paper too, and a fake with a paper a table.
        other = fake_of(ALL, 1, ("put", 1, B, "*", A))
        self.assertIsNotNone(found_paper(ALL, other))
        self.assertEqual(verdict_of(ALL, 1, ("put", 1, B, "*", A), ()), ("same",))
        self.assertIsNone(sought(ALL, fake_of(ALL, 0, SKIP)))
        self.assertEqual(verdict_of(ALL, 0, SKIP, ())[0], "paper")
        # What a trial tells could be found, too.
        self.assertEqual(sought(ALL, fake_of(ALL, 3, SKIP)), (0,))
        self.assertEqual(verdict_of(ALL, 3, SKIP, ((2,),)), ("trial", 0, 4))

    def test_the_number_at_which_both_part(self):
        # The trails part at the second thing, though only the outcomes tell.
        program = (((0, 9),), 2, (("put", 1, A, "+", number(1)), SKIP, SKIP, ("tell", B)))
        for trials, verdict in ((((4,),), ("trial", 0, 1)), ((), ("found", (0,), 1))):
            self.assertEqual(verdict_of(program, 0, ("put", 1, A, "+", number(2)), trials), verdict)
            self.assertEqual(verdict_of(program, 3, SKIP, trials), verdict[:2] + (4,))

    def test_a_limit(self):
        program = ((), 0, (SKIP, SKIP, ("tell", number(1))))
        self.assertEqual(verdicts(program, ((),), 3), (("trial", 0, 3), ("trial", 0, 3)))
        self.assertEqual(verdicts(program, ((),), 2), (("table",), ("table",)))
        self.assertEqual(verdicts(program, (), 3), (("found", (), 3), ("found", (), 3)))

    def test_the_limit_left_out_is_one_hundred(self):
        early = ((), 0, (SKIP,) * 99 + (("tell", number(3)),))
        late = ((), 0, (SKIP,) * 100 + (("tell", number(3)),))
        self.assertEqual(verdicts(early, ((),)), (("trial", 0, 100),) * 2)
        self.assertEqual(verdicts(late, ((),)), (("table",),) * 2)
        self.assertEqual(verdicts(late, ((),), 101), (("trial", 0, 101),) * 2)

    def test_ten_and_eleven_trials(self):
        ten = tuple((i,) for i in range(10))
        self.assertEqual(len(verdicts(SUMMING, ten)), 16)
        for many in (11, 15):
            for program in (SUMMING, (((0, 9),), 1, ())):
                with self.assertRaises(TooMany) as taken:
                    verdicts(program, ((1,),) * many)
                self.assertEqual(taken.exception.number, many)


class WholeTest(unittest.TestCase):
    """The promise over the whole, of many programs."""

    LIMIT = 25

    def fakes_and_verdicts(self):
        for seed, program in enumerate(some_programs(100, 40) + some_programs(101, 40, most_rows=5)):
            trials = tuple(some_inputs(seed, seed % 4, len(program[0])))
            told = verdicts(program, trials, self.LIMIT)
            self.assertTrue(kinds_are_plain(told))
            for fake, verdict in zip(fakes(program), told, strict=True):
                yield program, trials, fake_of(program, fake[0], fake[2]), verdict

    def check(self, program, trials, other, verdict):
        telling = [inputs for inputs in trials if tells(program, other, inputs, self.LIMIT)]
        if verdict[0] == "same":
            self.assertEqual(verdict, ("same",))
            self.assertEqual(made(program), made(other))
        elif verdict[0] == "trial":
            self.assertEqual(trials.index(telling[0]), verdict[1])
            self.assertEqual(parting(program, other, telling[0], self.LIMIT)[0], verdict[2])
            self.assertIsNone(found_paper(program, other))
        elif verdict[0] == "paper":
            self.assertTrue(paper_kept(program, other, verdict[1]))
            self.assertIsNone(sought(program, other, self.LIMIT))
        elif verdict[0] == "found":
            self.assertEqual(verdict[1], sought(program, other, self.LIMIT))
            self.assertEqual(verdict[2], parting(program, other, verdict[1], self.LIMIT)[0])
        else:
            self.assertEqual(verdict, ("table",) if width(program) <= 64 else ("unknown",))
            self.assertIsNone(sought(program, other, self.LIMIT))
            self.assertIsNone(found_paper(program, other))
        if verdict[0] != "trial":
            self.assertEqual(telling, [])

    def test_each_verdict_is_as_promised(self):
        counts = dict.fromkeys(("same", "trial", "paper", "found", "table", "unknown"), 0)
        for program, trials, other, verdict in self.fakes_and_verdicts():
            counts[verdict[0]] += 1
            self.check(program, trials, other, verdict)
        self.assertTrue(all(counts.values()), counts)

    def test_twins_have_the_same_verdict(self):
        for seed, program in enumerate(some_programs(102, 30)):
            trials = tuple(some_inputs(seed, 2, len(program[0])))
            told = verdicts(program, trials, self.LIMIT)
            same, groups = twins(program)
            self.assertEqual(same, tuple(i for i, verdict in enumerate(told) if verdict == ("same",)))
            for group in groups:
                self.assertEqual(len({told[i] for i in group}), 1)

    def test_bits_and_verdicts_agree(self):
        for seed, program in enumerate(some_programs(103, 30)):
            trials = tuple(some_inputs(seed, 3, len(program[0])))
            for bits, verdict in zip(bits_of(program, trials, self.LIMIT), verdicts(program, trials, self.LIMIT)):
                self.assertEqual(bits != 0, verdict[0] == "trial")
                if bits:
                    self.assertEqual(bits & -bits, 2 ** verdict[1])


def more_by_its_words(program, trials, limit):
    more = []
    for k, word, row in fakes(program):
        other = fake_of(program, k, row)
        if made(other) != made(program):
            if not any(tells(program, other, inputs, limit) for inputs in trials + tuple(more)):
                found = sought(program, other, limit)
                if found is not None:
                    more.append(found)
    return tuple(more)


class MoreTrialsTest(unittest.TestCase):
    def test_none_needed(self):
        self.assertEqual(more_trials(NOTHING, ()), ())
        self.assertEqual(more_trials(ALL, ((1,),)), ())
        self.assertEqual(more_trials(((), 0, (("go", 1),)), ()), ())

    def test_none_found(self):
        self.assertEqual(more_trials(of_stretch(-60, 6), ((3,),)), ())
        self.assertIn(("unknown",), verdicts(of_stretch(-60, 6), ((3,),)))

    def test_one_that_tells_several(self):
        program = (((3, 9),), 1, (("tell", A), ("tell", A)))
        self.assertEqual(more_trials(program, ()), ())
        program = (((3, 9),), 1, (("put", 0, A, "+", number(1)), ("tell", A)))
        self.assertEqual([verdict[0] for verdict in verdicts(program, ())].count("found"), len(fakes(program)) - 1)
        self.assertEqual(more_trials(program, ()), ((3,),))

    def test_in_the_order_in_which_they_are_made(self):
        # Each tell is reached by one number alone, the higher ones first.
        program = (((0, 9),), 1, (
            ("if", A, "<", number(2), 2), ("tell", number(7)), ("if", A, "<", number(1), 4), ("tell", number(8)),
            ("tell", number(9)),
        ))
        self.assertEqual(more_trials(program, ()), more_by_its_words(program, (), 100))
        self.assertEqual(more_trials(program, ()), ((2,), (0,), (1,)))
        self.assertEqual(more_trials(program, ((2,),)), more_by_its_words(program, ((2,),), 100))

    def test_more_than_ten(self):
        # Each if, left out, is told by one input alone.
        program = (((0, 63),), 1, tuple(("if", A, "=", number(3 * k), 12) for k in range(11)) + (("tell", number(1)),))
        told = more_trials(program, ())
        self.assertEqual(told, more_by_its_words(program, (), 100))
        self.assertGreater(len(told), 10)
        self.assertTrue({(3 * k,) for k in range(11)} <= set(told))

    def test_none_is_made_for_what_a_trial_tells(self):
        self.assertEqual(more_trials(SUMMING, tuple((i,) for i in range(10))), ())
        for program in some_programs(104, 20):
            made_more = more_trials(program, (), 25)
            if len(made_more) <= 10:
                self.assertEqual(more_trials(program, made_more, 25), ())

    def test_a_limit(self):
        program = ((), 0, (SKIP, SKIP, ("tell", number(1))))
        self.assertEqual(more_trials(program, (), 2), ())
        self.assertEqual(more_trials(program, (), 3), ((),))

    def test_the_limit_left_out_is_one_hundred(self):
        early = ((), 0, (SKIP,) * 99 + (("tell", number(3)),))
        late = ((), 0, (SKIP,) * 100 + (("tell", number(3)),))
        self.assertEqual(more_trials(early, ()), ((),))
        self.assertEqual(more_trials(late, ()), ())
        self.assertEqual(more_trials(late, (), 101), ((),))

    def test_ten_and_eleven_trials(self):
        self.assertEqual(more_trials(SUMMING, ((0,),) * 10), more_by_its_words(SUMMING, ((0,),), 100))
        for many in (11, 12):
            for program in (SUMMING, (((0, 9),), 1, ())):
                with self.assertRaises(TooMany) as taken:
                    more_trials(program, ((0,),) * many)
                self.assertEqual(taken.exception.number, many)

    def test_by_its_words(self):
        for seed, program in enumerate(some_programs(105, 40)):
            trials = tuple(some_inputs(seed, seed % 3, len(program[0])))
            told = more_trials(program, trials, 25)
            self.assertTrue(kinds_are_plain(told))
            self.assertEqual(told, more_by_its_words(program, trials, 25))
            self.assertTrue(set(told) <= set(tried(program)))
            self.assertFalse(any(one == other for one, other in itertools.combinations(told, 2)))


if __name__ == "__main__":
    unittest.main()
