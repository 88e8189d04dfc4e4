import random
import unittest

from fakehunt.bits import bits_of
from fakehunt.book import Book
from fakehunt.errors import TooMany
from fakehunt.fakes import fake_of, fakes
from fakehunt.machine import seen
from samples import NOTHING, SKIP, SUMMING, kinds_are_plain, name, number, one_row, some_inputs, some_programs

A = name(0)

# Nine fakes; by 1 the run does the rows 0 and 2, by 2 the rows 0 and 1.
FORK = (((0, 3),), 1, (
    ("if", A, "=", number(1), 2),
    ("tell", number(0)),
    ("tell", A),
))
TRIALS = ((1,), (2,))


class ModelBook:
    """A book by the words of the points: what is had, with the places seen, and what is given up at a change."""

    def __init__(self, program, trials, limit):
        self.program, self.trials, self.limit, self.count, self.had = program, trials, limit, 0, {}

    def codes(self):
        return {"own": self.program} | {(k, row): fake_of(self.program, k, row) for k, word, row in fakes(self.program)}

    def bits(self):
        for inputs in self.trials:
            for code, program in self.codes().items():
                if (code, inputs) not in self.had:
                    self.had[(code, inputs)] = seen(program, inputs, self.limit)
                    self.count += 1
        return bits_of(self.program, self.trials, self.limit)

    def change(self, j, row):
        self.program = fake_of(self.program, j, row)
        for code, inputs in list(self.had):
            saw = self.had[(code, inputs)] >> j & 1
            if code == "own":
                given_up = saw
            else:
                given_up = (code[0] != j and saw) or code not in self.codes()
            if given_up:
                del self.had[(code, inputs)]


class BookTest(unittest.TestCase):
    def check(self, book, runs):
        """So many runs are done when bits are asked for."""
        self.assertTrue(kinds_are_plain(book.bits()))
        self.assertEqual(book.runs(), runs)

    def opened(self, program=FORK, trials=TRIALS, limit=100):
        book = Book(program, trials, limit)
        book.bits()
        return book

    def test_no_run_when_opened(self):
        book = Book(FORK, TRIALS)
        self.assertEqual(book.runs(), 0)
        self.assertIs(type(book.runs()), int)
        self.assertEqual(book.now(), FORK)
        self.assertEqual(book.runs(), 0)

    def test_the_runs_behind_the_first_bits(self):
        self.assertEqual(len(fakes(FORK)), 9)
        book = Book(FORK, TRIALS)
        self.assertEqual(book.bits(), bits_of(FORK, TRIALS))
        self.assertEqual(book.runs(), 20)

    def test_asked_again(self):
        book = self.opened()
        first = book.bits()
        self.assertEqual(book.bits(), first)
        self.assertEqual(book.runs(), 20)
        self.assertEqual(book.now(), FORK)

    def test_trials_alike(self):
        book = Book(FORK, ((1,), (2,), (1,), (1,)))
        self.assertEqual(book.bits(), bits_of(FORK, ((1,), (2,), (1,), (1,))))
        self.assertEqual(book.runs(), 20)

    def test_no_trials(self):
        book = Book(FORK, ())
        self.assertEqual(book.bits(), (0,) * 9)
        self.assertEqual(book.runs(), 0)

    def test_no_fakes(self):
        book = Book(NOTHING, ((),))
        self.assertEqual(book.bits(), ())
        self.assertEqual(book.runs(), 1)
        book = Book((((0, 1),), 1, (SKIP, SKIP)), ((0,), (1,), (0,)))
        self.assertEqual(book.bits(), ())
        self.assertEqual(book.bits(), ())
        self.assertEqual(book.runs(), 2)
        book.change(1, SKIP)
        self.assertEqual(book.bits(), ())
        self.assertEqual(book.runs(), 4)

    def test_a_row_that_some_runs_saw_and_others_did_not(self):
        book = self.opened()
        self.assertIsNone(book.change(1, ("tell", number(5))))
        self.assertEqual(book.runs(), 20)
        self.assertEqual(book.now(), fake_of(FORK, 1, ("tell", number(5))))
        # Anew: the program by 2; of row 0 more and turn by 1, out by both, swap and far by 2; of row 1 more by both,
        # but out, which it had, by none; of row 2 out by 2.
        self.check(book, 20 + 1 + 6 + 2 + 1)
        self.assertEqual(book.bits(), bits_of(book.now(), TRIALS))

    def test_a_row_that_no_run_saw(self):
        program = FORK[:2] + (FORK[2] + (("tell", number(9)),),)
        book = self.opened(program, ((2,),))
        runs = book.runs()
        # By 2 neither the program nor a fake comes behind row 2; only the fake (3, tell 5) is new.
        self.assertFalse(any(seen(fake_of(program, k, row), (2,)) >> 3 & 1 for k, word, row in fakes(program)))
        book.change(3, ("tell", number(4)))
        self.check(book, runs + 1)
        self.assertEqual(book.bits(), bits_of(book.now(), ((2,),)))

    def test_put_by_the_row_that_it_is(self):
        book = self.opened()
        book.change(1, ("tell", number(0)))
        self.assertEqual(book.now(), FORK)
        # The fakes of row 1 itself are all kept.
        self.check(book, 20 + 1 + 6 + 1)
        self.assertEqual(book.bits(), bits_of(FORK, TRIALS))

    def test_put_back(self):
        book = self.opened()
        book.change(1, ("tell", number(5)))
        book.change(1, ("tell", number(0)))
        self.assertEqual(book.now(), FORK)
        # The fake that tells 1 was given up in between, though no bits were asked for; the other one was not.
        self.check(book, 20 + 1 + 6 + 2 + 1)
        self.assertEqual(book.bits(), bits_of(FORK, TRIALS))

    def test_put_back_with_bits_between(self):
        book = self.opened()
        book.change(1, ("tell", number(5)))
        self.check(book, 30)
        book.change(1, ("tell", number(0)))
        self.check(book, 40)
        self.assertEqual(book.bits(), bits_of(FORK, TRIALS))

    def test_a_fake_that_the_program_has_no_more_and_has_again(self):
        book = self.opened()
        # A tell of a number has more and out; skip has no fake at all.
        book.change(1, SKIP)
        book.change(1, ("tell", number(0)))
        self.check(book, 20 + 1 + 6 + 4 + 1)
        self.assertEqual(book.bits(), bits_of(FORK, TRIALS))

    def test_a_change_to_a_fakes_own_row(self):
        book = self.opened()
        book.change(1, ("tell", number(1)))
        # The program by 2 is run anew, whatever the fake came to; the fake (1, tell 2) is new.
        self.check(book, 20 + 1 + 6 + 2 + 1)
        self.assertEqual(book.bits(), bits_of(book.now(), TRIALS))

    def test_changes_of_two_rows(self):
        book = self.opened()
        book.change(1, ("tell", number(0)))
        book.change(2, ("tell", A))
        # Kept are: of row 0 far by 1, which goes to the end; of row 1 more by 2, which saw but its own row; of row 2
        # out by 1.
        self.check(book, 20 + 20 - 3)
        self.assertEqual(book.bits(), bits_of(FORK, TRIALS))

    def test_a_first_row_that_every_run_saw(self):
        book = self.opened()
        book.change(0, ("if", A, "=", number(2), 2))
        # Of the nine fakes before, out is had again, and of row 0 nothing else.
        again = {(k, row) for k, word, row in fakes(book.now())} & {(k, row) for k, word, row in fakes(FORK) if k == 0}
        self.assertIn((0, SKIP), again)
        self.check(book, 20 + 20 - 2 * len(again))
        self.assertEqual(book.bits(), bits_of(book.now(), TRIALS))

    def test_a_change_ahead_of_any_bits(self):
        book = Book(FORK, TRIALS)
        book.change(1, ("tell", number(5)))
        self.assertEqual(book.runs(), 0)
        self.check(book, 20)
        self.assertEqual(book.bits(), bits_of(book.now(), TRIALS))

    def test_limits_cut_what_a_run_saw(self):
        book = self.opened(SUMMING, ((9,),), 3)
        self.assertEqual(book.runs(), 17)
        # By this limit the program comes to row 3 and does not do it.
        book.change(3, ("go", 1))
        others = [(k, row) for k, word, row in fakes(book.now())]
        kept = [(k, row) for k, word, row in fakes(SUMMING) if (k, row) in others]
        kept = [(k, row) for k, row in kept if k == 3 or not seen(fake_of(SUMMING, k, row), (9,), 3) >> 3 & 1]
        self.check(book, 17 + len(others) - len(kept))
        self.assertEqual(book.bits(), bits_of(book.now(), ((9,),), 3))

    def test_a_trial_added(self):
        book = self.opened()
        self.assertIsNone(book.add((3,)))
        self.assertEqual(book.runs(), 20)
        self.assertEqual(book.bits(), bits_of(FORK, TRIALS + ((3,),)))
        self.assertEqual(book.runs(), 30)

    def test_a_trial_added_that_is_there(self):
        book = self.opened()
        book.add((2,))
        self.assertEqual(book.bits(), bits_of(FORK, TRIALS + ((2,),)))
        self.assertEqual(book.runs(), 20)

    def test_an_eleventh_trial(self):
        book = self.opened(FORK, ((0,),) * 9)
        book.add((1,))
        before = book.bits()
        self.assertEqual(before, bits_of(FORK, ((0,),) * 9 + ((1,),)))
        runs = book.runs()
        for i in range(2):
            with self.assertRaises(TooMany) as taken:
                book.add((2,))
            self.assertEqual(taken.exception.number, 11)
        self.assertEqual(book.bits(), before)
        self.assertEqual(book.runs(), runs)
        self.assertEqual(book.now(), FORK)

    def test_more_than_ten_when_opened(self):
        self.assertEqual(Book(FORK, ((0,),) * 10).runs(), 0)
        for many in (11, 12, 30):
            with self.assertRaises(TooMany) as taken:
                Book(FORK, ((0,),) * many)
            self.assertEqual(taken.exception.number, many)

    def test_two_books_side_by_side(self):
        one = Book(FORK, TRIALS)
        other = Book(FORK, TRIALS)
        one.bits()
        self.assertEqual((one.runs(), other.runs()), (20, 0))
        one.change(1, ("tell", number(5)))
        one.add((0,))
        self.assertEqual(other.now(), FORK)
        self.assertEqual(other.bits(), bits_of(FORK, TRIALS))
        self.assertEqual(one.runs(), 20)
        self.assertEqual(one.bits(), bits_of(one.now(), TRIALS + ((0,),)))

    def test_what_was_told_stays(self):
        book = self.opened()
        bits = book.bits()
        program = book.now()
        kept = (repr(bits), repr(program))
        book.change(0, SKIP)
        book.add((0,))
        book.bits()
        self.assertEqual((repr(bits), repr(program)), kept)
        self.assertEqual(program, FORK)

    def test_the_limit(self):
        program = ((), 0, (SKIP, SKIP, ("tell", number(1))))
        self.assertEqual(Book(program, ((),), 2).bits(), (0, 0))
        self.assertEqual(Book(program, ((),), 3).bits(), (1, 1))
        self.assertEqual(Book(program, ((),), limit=3).bits(), (1, 1))

    def test_the_limit_left_out_is_one_hundred(self):
        early = ((), 0, (SKIP,) * 99 + (("tell", number(3)),))
        late = ((), 0, (SKIP,) * 100 + (("tell", number(3)),))
        self.assertEqual(Book(early, ((),)).bits(), (1, 1))
        self.assertEqual(Book(late, ((),)).bits(), (0, 0))
        self.assertEqual(Book(late, ((),), 101).bits(), (1, 1))

    def test_over_many_changes(self):
        chance = random.Random(120)
        for seed, program in enumerate(some_programs(121, 60, most_rows=7)):
            trials = tuple(some_inputs(seed, seed % 4, len(program[0])))
            book = Book(program, trials, 20)
            model = ModelBook(program, trials, 20)
            for step in range(12):
                doing = chance.choice(("bits", "change", "change", "back", "add"))
                if doing == "bits":
                    self.assertEqual(book.bits(), model.bits())
                    self.assertEqual(book.bits(), Book(model.program, model.trials, 20).bits())
                elif doing == "add" and len(model.trials) < 10:
                    inputs = some_inputs(chance.random(), 1, len(program[0]))[0]
                    book.add(inputs)
                    model.trials += (inputs,)
                elif program[2] and doing in ("change", "back"):
                    j = chance.randrange(len(program[2]))
                    choices = [row for k, word, row in fakes(model.program) if k == j] + [model.program[2][j]]
                    choices.append(one_row(chance, program[1], len(program[2])))
                    row = program[2][j] if doing == "back" else chance.choice(choices)
                    book.change(j, row)
                    model.change(j, row)
                self.assertEqual(book.runs(), model.count)
                self.assertEqual(book.now(), model.program)


if __name__ == "__main__":
    unittest.main()
