import itertools
import unittest

from fakehunt.fakes import fake_of, fakes
from fakehunt.machine import began, moved, outcome
from fakehunt.made import made
from fakehunt.pairs import follow
from fakehunt.papers import found_paper
from fakehunt.walking import paper_kept
from samples import (
    GREATER, NOTHING, SKIP, SUMMING, kinds_are_plain, name, number, some_inputs, some_programs,
)

A = name(0)
B = name(1)
C = name(2)

# The second name is put and never read again.
IDLE = (((0, 9),), 2, (
    ("put", 1, A, "*", A),
    ("put", 0, A, "+", number(1)),
    ("tell", A),
))

# a runs to 3; b is read only behind the loop, and c, put in it, goes into b one round later.
LOOP = (((0, 9),), 3, (
    ("put", 2, number(5), "+", number(0)),
    ("if", A, "<", number(1), 5),
    ("put", 1, C, "+", number(0)),
    ("put", 0, A, "+", number(-1)),
    ("go", 0),
    ("tell", number(8)),
))


def found_round_by_round(one, other):
    """The found paper by the words of the point, all pairs anew in each round."""
    paper = {(0, 0): 2 ** one[1] - 1}
    while True:
        before = dict(paper)
        for (k, j), bits in before.items():
            for place, along, stay in follow(one, other, k, j, bits) or ():
                paper[(place, along)] = paper.get((place, along), stay) & stay
        if paper == before:
            break
    if any(follow(one, other, k, j, bits) is None for (k, j), bits in paper.items()):
        return None
    return tuple(sorted((k, j, bits) for (k, j), bits in paper.items()))


class FoundPaperTest(unittest.TestCase):
    def test_of_a_program_and_itself(self):
        self.assertEqual(found_paper(NOTHING, NOTHING), ((0, 0, 0),))
        self.assertEqual(found_paper(((), 3, ()), ((), 3, ())), ((0, 0, 7),))
        self.assertEqual(found_paper(SUMMING, SUMMING), tuple((k, k, 3) for k in range(5)))
        self.assertEqual(found_paper(GREATER, GREATER), ((0, 0, 3), (1, 1, 3), (2, 2, 3)))

    def test_only_places_that_are_reached(self):
        program = ((), 0, (("go", 2), ("tell", number(1)), SKIP))
        self.assertEqual(found_paper(program, program), ((0, 0, 0), (2, 2, 0), (3, 3, 0)))

    def test_of_a_program_and_its_made_code(self):
        for program in (SUMMING, GREATER, IDLE, LOOP) + tuple(some_programs(70, 60)):
            paper = found_paper(program, made(program))
            self.assertEqual(paper, found_paper(program, program))
            self.assertTrue(all(bits == 2 ** program[1] - 1 and k == j for k, j, bits in paper))

    def test_a_name_that_is_not_read(self):
        self.assertEqual(found_paper(IDLE, fake_of(IDLE, 0, SKIP)), ((0, 0, 3), (1, 1, 1), (2, 2, 1)))
        other = fake_of(IDLE, 0, ("put", 1, A, "/", A))
        self.assertEqual(found_paper(IDLE, other), ((0, 0, 3), (1, 1, 1), (2, 2, 1)))

    def test_places_that_are_not_alike(self):
        one = ((), 1, (("put", 0, A, "+", number(2)), SKIP, ("tell", A)))
        other = ((), 1, (("put", 0, A, "-", number(-2)), ("go", 4), SKIP, SKIP, ("tell", A)))
        self.assertEqual(found_paper(one, other), ((0, 0, 1), (1, 1, 1), (2, 4, 1)))
        self.assertEqual(found_paper(other, one), ((0, 0, 1), (1, 1, 1), (4, 2, 1)))

    def test_a_loop_that_one_is_ahead_in(self):
        one = ((), 0, (SKIP, ("go", 0)))
        other = ((), 0, (("go", 0),))
        self.assertEqual(found_paper(one, other), ((0, 0, 0), (1, 0, 0)))
        other = ((), 0, (SKIP, SKIP, ("go", 0)))
        self.assertEqual(found_paper(one, other), tuple((k, j, 0) for k in range(2) for j in range(3)))

    def test_bits_that_fall_in_a_later_round(self):
        other = fake_of(LOOP, 0, ("put", 2, number(6), "+", number(0)))
        # c falls at once, b only in the first round: so both are out where the loop begins again.
        self.assertEqual(found_paper(LOOP, other), tuple((k, k, 1) for k in range(6)))
        self.assertEqual(found_paper(LOOP, LOOP), tuple((k, k, 7) for k in range(6)))

    def test_a_bit_that_falls_in_a_later_round_and_is_read(self):
        one = fake_of(LOOP, 5, ("tell", B))
        other = fake_of(one, 0, ("put", 2, number(6), "+", number(0)))
        self.assertIsNone(found_paper(one, other))
        self.assertEqual(outcome(one, (0,)), outcome(other, (0,)))
        self.assertNotEqual(outcome(one, (1,)), outcome(other, (1,)))

    def test_none_where_a_pair_is_at_odds(self):
        self.assertIsNone(found_paper(SUMMING, fake_of(SUMMING, 4, ("tell", A))))
        self.assertIsNone(found_paper(SUMMING, fake_of(SUMMING, 4, SKIP)))
        self.assertIsNone(found_paper(NOTHING, ((), 0, (SKIP,))))
        self.assertIsNone(found_paper(((), 0, (SKIP,)), NOTHING))
        self.assertIsNone(found_paper(((), 0, (SKIP, SKIP)), ((), 0, (SKIP,))))

    def test_sorted_by_k_and_j(self):
        one = (((0, 9),), 1, (("if", A, "<", number(5), 3), SKIP, ("go", 5), SKIP, SKIP, ("go", 0)))
        for other in (one, fake_of(one, 0, ("if", A, "<", number(6), 3)), fake_of(one, 0, SKIP)):
            paper = found_paper(one, other)
            self.assertIsNotNone(paper)
            self.assertEqual(list(paper), sorted(paper))
            self.assertGreater(len(paper), 3)

    def test_round_by_round_and_kept(self):
        kept = none = 0
        for program in some_programs(71, 60) + some_programs(72, 60, most_rows=5):
            for k, word, row in fakes(program):
                other = fake_of(program, k, row)
                paper = found_paper(program, other)
                self.assertTrue(kinds_are_plain(paper))
                self.assertEqual(paper, found_round_by_round(program, other))
                if paper is None:
                    none += 1
                else:
                    kept += 1
                    self.assertIs(paper_kept(program, other, paper), True)
        self.assertGreater(kept, 100)
        self.assertGreater(none, 100)

    def test_nothing_handed_in_or_told_hangs_on_an_earlier_call(self):
        told = found_paper(IDLE, fake_of(IDLE, 0, SKIP))
        found_paper(LOOP, LOOP)
        self.assertEqual(found_paper(IDLE, fake_of(IDLE, 0, SKIP)), told)


class PaperKeptTest(unittest.TestCase):
    def setUp(self):
        self.one = IDLE
        self.other = fake_of(IDLE, 0, SKIP)
        self.paper = ((0, 0, 3), (1, 1, 1), (2, 2, 1))

    def check(self, so, paper):
        with self.subTest(paper=paper):
            self.assertIs(paper_kept(self.one, self.other, paper), so)

    def test_the_found_one(self):
        self.check(True, self.paper)

    def test_in_another_order(self):
        for paper in itertools.permutations(self.paper):
            self.check(True, paper)

    def test_a_pair_left_out(self):
        for i in range(3):
            self.check(False, self.paper[:i] + self.paper[i + 1:])

    def test_the_empty_one(self):
        self.check(False, ())
        self.assertIs(paper_kept(NOTHING, NOTHING, ()), False)
        self.assertIs(paper_kept(NOTHING, NOTHING, ((0, 0, 0),)), True)

    def test_bits_left_out(self):
        self.check(True, ((0, 0, 1), (1, 1, 1), (2, 2, 1)))
        # Without a at (0, 0) it is not in the bits that stay at (1, 1).
        self.check(False, ((0, 0, 2), (1, 1, 1), (2, 2, 1)))
        self.check(False, ((0, 0, 0), (1, 1, 1), (2, 2, 1)))
        self.check(False, ((0, 0, 3), (1, 1, 0), (2, 2, 1)))
        # What tells a must have a.
        self.check(False, ((0, 0, 3), (1, 1, 1), (2, 2, 0)))

    def test_a_bit_more(self):
        self.check(False, ((0, 0, 3), (1, 1, 3), (2, 2, 1)))
        self.check(False, ((0, 0, 3), (1, 1, 3), (2, 2, 3)))
        self.check(False, ((0, 0, 3), (1, 1, 1), (2, 2, 3)))

    def test_a_pair_twice(self):
        self.check(False, self.paper + ((1, 1, 1),))
        self.check(False, self.paper + ((1, 1, 0),))
        self.check(False, ((0, 0, 3),) + self.paper)
        self.check(False, self.paper + ((2, 2, 3),))

    def test_without_the_first_pair(self):
        self.check(False, ((1, 1, 1), (2, 2, 1)))
        self.check(False, ((2, 2, 1),))
        self.check(False, ((3, 3, 0),))

    def test_a_pair_more(self):
        self.check(True, self.paper + ((3, 3, 3),))
        self.check(True, self.paper + ((3, 3, 0),))
        # A pair more that is at odds, or of which what follows does not stand there.
        self.check(False, self.paper + ((3, 0, 3),))
        self.check(False, self.paper + ((2, 3, 3),))
        self.check(False, self.paper + ((0, 1, 3),))
        self.check(False, self.paper + ((1, 0, 3),))

    def test_none_for_unlike_programs(self):
        self.other = fake_of(IDLE, 2, ("tell", B))
        for bits in itertools.product(range(4), repeat=3):
            self.check(False, tuple((k, k, bits[k]) for k in range(3)))

    def test_where_a_paper_is_kept_there_is_a_found_one(self):
        one = ((), 1, (("put", 0, A, "+", number(1)), ("if", A, "<", number(3), 0)))
        places = list(itertools.product(range(3), range(3)))
        for k, word, row in fakes(one):
            other = fake_of(one, k, row)
            found = found_paper(one, other)
            for choice in itertools.product((None, 0, 1), repeat=9):
                paper = tuple(pair + (bits,) for pair, bits in zip(places, choice) if bits is not None)
                if paper_kept(one, other, paper):
                    self.assertIsNotNone(found)
                    known = {triple[:2]: triple[2] for triple in paper}
                    for place, along, bits in found:
                        self.assertEqual(known[(place, along)] & ~bits, 0)

    def test_a_truth_is_told(self):
        self.assertIs(type(paper_kept(self.one, self.other, self.paper)), bool)


class KeptMeansAlikeTest(unittest.TestCase):
    def pairs_with_a_paper(self):
        for program in some_programs(73, 80):
            for k, word, row in fakes(program):
                other = fake_of(program, k, row)
                paper = found_paper(program, other)
                if paper is not None and made(program) != made(other):
                    yield program, other, paper

    def test_the_same_outcomes_at_every_limit(self):
        count = 0
        for one, other, paper in self.pairs_with_a_paper():
            count += 1
            for inputs in some_inputs(count, 5, len(one[0])):
                for limit in (0, 1, 2, 3, 5, 8, 13, 60):
                    self.assertEqual(outcome(one, inputs, limit), outcome(other, inputs, limit))
        self.assertGreater(count, 50)

    def test_states_lead_to_states_that_stand_so(self):
        count = 0
        for one, other, paper in self.pairs_with_a_paper():
            count += 1
            known = {triple[:2]: triple[2] for triple in paper}
            for inputs in some_inputs(count, 2, len(one[0])):
                left = began(one, inputs)
                right = began(other, inputs)
                for step in range(30):
                    bits = known[(left[0], right[0])]
                    for i in range(one[1]):
                        if bits >> i & 1:
                            self.assertEqual(left[1][i], right[1][i])
                    left = moved(one, left)
                    right = moved(other, right)
                    if isinstance(left[0], str) or isinstance(right[0], str):
                        self.assertEqual(left, right)
                        break


if __name__ == "__main__":
    unittest.main()
