import itertools
import random
import unittest

from fakehunt.fewest import fewest, shown_fewest, strangers
from fakehunt.order import hits, topmost
from samples import kinds_are_plain

SINGLES = tuple(2 ** i for i in range(10))
TWOS = tuple(2 ** a + 2 ** b for a, b in itertools.combinations(range(10), 2))
THREES = tuple(2 ** a + 2 ** b + 2 ** c for a, b, c in itertools.combinations(range(10), 3))


def as_bits(numbers):
    return sum(2 ** i for i in numbers)


def fewest_by_all(bits, many):
    for size in range(many + 1):
        for choice in itertools.combinations(range(many), size):
            if hits(as_bits(choice), bits):
                return choice


def strangers_by_all(bits, size):
    for row in itertools.combinations(range(len(bits)), size):
        if all(bits[i] for i in row) and all(bits[i] & bits[k] == 0 for i, k in itertools.combinations(row, 2)):
            return row
    return None


def some_bits(seed, rounds, most=9):
    chance = random.Random(seed)
    for i in range(rounds):
        many = chance.randrange(11)
        pool = [0] + [as_bits(chance.sample(range(many), min(many, size))) for size in (1, 1, 2, 2, 2, 3, 3, 4, 5)]
        yield tuple(chance.choice(pool) for k in range(chance.randrange(most))), many


class FewestTest(unittest.TestCase):
    def check(self, bits, many, answer):
        with self.subTest(bits=bits, many=many):
            self.assertEqual(fewest(bits, many), answer)

    def test_no_fakes(self):
        self.check((), 0, ())
        self.check((), 10, ())

    def test_told_by_none(self):
        self.check((0,), 0, ())
        self.check((0, 0, 0), 5, ())

    def test_one_trial_that_tells_all(self):
        self.check((4, 6, 12, 0), 4, (2,))
        self.check((512,), 10, (9,))

    def test_the_first_of_several_choices(self):
        self.check((1023,), 10, (0,))
        self.check((6,), 3, (1,))
        self.check((3, 12), 4, (0, 2))
        self.check((5, 10), 4, (0, 1))
        self.check((6, 6, 8), 4, (1, 3))
        self.check((3, 6, 5), 3, (0, 1))

    def test_fakes_told_by_one_trial_alone(self):
        self.check((1, 2, 3), 2, (0, 1))
        self.check((8, 7, 15), 4, (0, 3))
        self.check(SINGLES, 10, tuple(range(10)))
        self.check(SINGLES[:9], 10, tuple(range(9)))
        self.check(SINGLES[1:], 10, tuple(range(1, 10)))

    def test_fewer_than_taking_the_greatest_first(self):
        # The trial 0 tells four of the fakes, but 1 and 2 together tell all six.
        self.check((3, 3, 5, 5, 2, 4), 3, (1, 2))

    def test_ten_trials_and_a_hundred_fakes(self):
        self.check(TWOS + TWOS + TWOS[:10], 10, tuple(range(9)))
        self.check(THREES[:100], 10, fewest_by_all(THREES[:100], 10))
        self.check((1023,) * 100, 10, (0,))
        chance = random.Random(90)
        for size in range(1, 7):
            sets = [as_bits(choice) for choice in itertools.combinations(range(10), size)]
            bits = tuple(chance.choice(sets) for i in range(100))
            self.check(bits, 10, fewest_by_all(bits, 10))

    def test_of_all_choices(self):
        for bits, many in some_bits(91, 300):
            told = fewest(bits, many)
            self.assertTrue(kinds_are_plain(told))
            self.check(bits, many, fewest_by_all(bits, many))
            few = tuple(bits[i] for i in topmost(bits))
            self.assertEqual(len(fewest(few, many)), len(told))


class StrangersTest(unittest.TestCase):
    def check(self, bits, size, answer):
        with self.subTest(bits=bits, size=size):
            self.assertEqual(strangers(bits, size), answer)

    def test_of_length_nought(self):
        self.check((), 0, ())
        self.check((0, 0), 0, ())
        self.check((1, 2), 0, ())

    def test_a_length_that_there_is_not(self):
        self.check((), 1, None)
        self.check((0, 0), 1, None)
        self.check((1, 2), 3, None)
        self.check((3, 6, 5), 2, None)
        self.check(SINGLES, 10, tuple(range(10)))
        self.check(SINGLES[:9], 10, None)

    def test_the_first_row(self):
        self.check((1, 2, 4), 1, (0,))
        self.check((1, 2, 4), 2, (0, 1))
        self.check((1, 2, 4), 3, (0, 1, 2))
        self.check((0, 3, 1, 2, 4), 2, (1, 4))
        self.check((0, 3, 1, 2, 4), 3, (2, 3, 4))
        self.check((7, 3, 5, 6, 8), 2, (0, 4))

    def test_fakes_with_the_same_bits(self):
        self.check((1, 1), 2, None)
        self.check((1, 1, 2, 2), 2, (0, 2))
        self.check((3, 3, 12, 3, 12), 2, (0, 2))

    def test_thirty_unlike_bits(self):
        self.check(SINGLES[:9] + TWOS[:20] + (1022,), 10, None)
        self.check(SINGLES[:9] + TWOS[:20] + (1022,), 9, tuple(range(9)))
        self.check(TWOS[15:], 5, None)
        self.check(TWOS[15:], 4, strangers_by_all(TWOS[15:], 4))
        self.check(THREES[:30], 4, None)
        self.check(THREES[:30], 3, None)
        self.check(THREES[90:], 2, strangers_by_all(THREES[90:], 2))
        self.check(tuple(range(994, 1024)), 2, None)

    def test_thirty_unlike_bits_among_a_hundred_fakes(self):
        chance = random.Random(92)
        for i in range(20):
            pool = chance.sample(SINGLES[:8] + TWOS + THREES, 30)
            bits = tuple(chance.choice(pool + [0]) for k in range(100))
            for size in range(11):
                row = strangers(bits, size)
                firsts = sorted(set(bits.index(each) for each in bits if each))
                if row is not None:
                    self.assertEqual(len(row), size)
                    self.assertTrue(set(row) <= set(firsts))
                    self.assertEqual(sum(bits[i] for i in row), as_bits(
                        k for k in range(10) if any(bits[i] >> k & 1 for i in row)))
                else:
                    self.assertIsNone(strangers(bits, size + 1))

    def test_of_all_rows(self):
        for bits, many in some_bits(93, 300):
            for size in range(6):
                self.check(bits, size, strangers_by_all(bits, size))


class ShownFewestTest(unittest.TestCase):
    def check(self, bits, many, *answer):
        with self.subTest(bits=bits, many=many):
            self.assertEqual(shown_fewest(bits, many), answer)

    def test_none(self):
        self.check((), 0, (), ())
        self.check((0, 0), 3, (), ())

    def test_with_strangers_as_long(self):
        self.check((1,), 1, (0,), (0,))
        self.check((0, 1, 2, 3), 2, (0, 1), (1, 2))
        self.check((3, 12), 4, (0, 2), (0, 1))
        self.check(SINGLES, 10, tuple(range(10)), tuple(range(10)))

    def test_without(self):
        self.check((3, 6, 5), 3, (0, 1), None)
        self.check(TWOS[:0] + (3, 5, 9, 6, 10, 12), 4, (0, 1, 2), None)

    def test_strangers_are_no_more_than_what_hits(self):
        for bits, many in some_bits(94, 200):
            few, row = shown_fewest(bits, many)
            self.assertEqual(few, fewest(bits, many))
            self.assertEqual(row, strangers(bits, len(few)))
            self.assertIsNone(strangers(bits, len(few) + 1))


if __name__ == "__main__":
    unittest.main()
