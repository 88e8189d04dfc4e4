import itertools
import random
import unittest

from fakehunt.order import above, hits, spared, topmost
from samples import kinds_are_plain


def some_bits(seed, many):
    chance = random.Random(seed)
    for i in range(many):
        trials = chance.randrange(11)
        yield tuple(chance.randrange(2 ** trials) for k in range(chance.randrange(12))), trials


class AboveTest(unittest.TestCase):
    def check(self, one, other, so):
        with self.subTest(one=one, other=other):
            self.assertIs(above(one, other), so)

    def test_told_by_none(self):
        self.check(0, 0, False)
        self.check(0, 5, False)
        self.check(5, 0, False)

    def test_itself(self):
        for bits in (1, 2, 5, 1023):
            self.check(bits, bits, True)

    def test_one_within_another(self):
        self.check(1, 3, True)
        self.check(3, 1, False)
        self.check(2, 7, True)
        self.check(512, 1023, True)
        self.check(1023, 512, False)

    def test_unlike(self):
        self.check(1, 2, False)
        self.check(3, 6, False)
        self.check(3, 5, False)

    def test_each_pair(self):
        for one, other in itertools.product(range(16), repeat=2):
            so = one != 0 and all(other >> i & 1 for i in range(4) if one >> i & 1)
            self.check(one, other, so)


class TopmostTest(unittest.TestCase):
    def test_none(self):
        self.assertEqual(topmost(()), ())
        self.assertEqual(topmost((0,)), ())
        self.assertEqual(topmost((0, 0, 0)), ())

    def test_one_within_another(self):
        self.assertEqual(topmost((3, 1)), (1,))
        self.assertEqual(topmost((1, 3)), (0,))
        self.assertEqual(topmost((7, 3, 6, 2)), (3,))
        self.assertEqual(topmost((7, 3, 6)), (1, 2))

    def test_the_same_bits_twice(self):
        self.assertEqual(topmost((5, 5)), (0,))
        self.assertEqual(topmost((0, 5, 2, 5, 2)), (1, 2))
        self.assertEqual(topmost((7, 5, 7, 5)), (1,))

    def test_told_by_none_is_above_none(self):
        self.assertEqual(topmost((0, 3, 0, 4)), (1, 3))

    def test_all(self):
        self.assertEqual(topmost((1, 2, 4, 8)), (0, 1, 2, 3))
        self.assertEqual(topmost(tuple(2 ** i for i in range(10))), tuple(range(10)))

    def test_a_hundred(self):
        self.assertEqual(topmost(tuple(range(924, 1024))), tuple(
            i for i in range(100) if not any(k != i and (924 + k) & (924 + i) == 924 + k for k in range(100))))
        self.assertEqual(topmost((1023,) * 100), (0,))


class HitsTest(unittest.TestCase):
    def test_no_fakes(self):
        self.assertIs(hits(0, ()), True)
        self.assertIs(hits(5, ()), True)

    def test_told_by_none(self):
        self.assertIs(hits(0, (0, 0)), True)
        self.assertIs(hits(3, (0, 0)), True)

    def test_a_choice_of_none(self):
        self.assertIs(hits(0, (0, 1)), False)
        self.assertIs(hits(0, (512,)), False)

    def test_choices(self):
        self.assertIs(hits(1, (1, 3, 5)), True)
        self.assertIs(hits(2, (1, 3, 5)), False)
        self.assertIs(hits(6, (1, 3, 5)), False)
        self.assertIs(hits(6, (2, 0, 5)), True)
        self.assertIs(hits(1023, (1, 2, 512)), True)
        self.assertIs(hits(511, (1, 2, 512)), False)

    def test_what_hits_the_topmost_hits_all(self):
        for bits, trials in some_bits(83, 150):
            told = topmost(bits)
            self.assertTrue(kinds_are_plain(told))
            few = tuple(bits[i] for i in told)
            for choice in range(2 ** trials):
                self.assertIs(hits(choice, few), hits(choice, bits))


class SparedTest(unittest.TestCase):
    def test_no_trials(self):
        self.assertEqual(spared((), 0), 0)
        self.assertEqual(spared((0, 0), 0), 0)

    def test_nothing_to_hit(self):
        self.assertEqual(spared((), 10), 0)
        self.assertEqual(spared((0, 0, 0), 4), 0)

    def test_the_last_are_left_out_ahead_of_the_first(self):
        self.assertEqual(spared((3,), 2), 1)
        self.assertEqual(spared((1023,), 10), 1)
        self.assertEqual(spared((3, 6), 3), 2)

    def test_where_the_first_are_kept(self):
        self.assertEqual(spared((3, 5), 3), 1)
        self.assertEqual(spared((1, 2, 7), 3), 3)

    def test_where_the_last_are_kept(self):
        self.assertEqual(spared((4, 5, 6), 3), 4)
        self.assertEqual(spared((512,), 10), 512)
        self.assertEqual(spared((12, 8), 4), 8)

    def test_not_always_the_fewest(self):
        # The last trial would do alone, but it is left out ahead of all others.
        bits = (0b1001, 0b1010, 0b1100)
        self.assertEqual(spared(bits, 4), 0b0111)
        self.assertIs(hits(0b1000, bits), True)

    def test_one_trial(self):
        self.assertEqual(spared((1, 0), 1), 1)
        self.assertEqual(spared((0,), 1), 0)

    def test_all_are_needed(self):
        self.assertEqual(spared(tuple(2 ** i for i in range(10)), 10), 1023)

    def test_it_hits_and_none_can_be_left_out(self):
        for bits, trials in some_bits(84, 150):
            left = spared(bits, trials)
            self.assertTrue(hits(left, bits))
            for i in range(trials):
                if left >> i & 1:
                    self.assertFalse(hits(left & ~(1 << i), bits))


if __name__ == "__main__":
    unittest.main()
