import unittest

from fakehunt.bits import bits_of
from fakehunt.errors import NoLine, NoName, NoPlace, TooMany, Twice
from fakehunt.fakes import fakes
from fakehunt.fewest import fewest
from fakehunt.hunt import more_trials, verdicts
from fakehunt.reading import read
from fakehunt.report import report
from fakehunt.showing import shown
from samples import some_inputs, some_programs

# b is idle, and only inputs above 7 come to row 4.
TEXT = """# as the hunt's own tests have it
take a 0 3
name b
put b a + a
put b a * b
if 7 < a go 4
tell a
tell 5
"""


def lines(*texts):
    return "\n".join(texts)


class ReportTest(unittest.TestCase):
    maxDiff = None

    def test_every_verdict(self):
        self.assertEqual(report(TEXT, ((1,), (0,))), lines(
            "0 sign paper", "0 out paper", "1 sign paper", "1 out paper", "1 swap same",
            "2 sign table", "2 more table", "2 turn trial 0", "2 out table", "2 swap trial 0",
            "2 far table", "3 out trial 0", "4 more table", "4 out table",
            "fewest 0", "more 0",
        ))

    def test_unknown_and_found(self):
        text = TEXT.replace("0 3", "-100 100")
        told = report(text, ())
        self.assertEqual(told, lines(
            "0 sign paper", "0 out paper", "1 sign paper", "1 out paper", "1 swap same",
            "2 sign unknown", "2 more unknown", "2 turn found -100", "2 out found 100", "2 swap found -100",
            "2 far found 100", "3 out found -100", "4 more found 100", "4 out found 100",
            "fewest", "more 2",
        ))

    def test_found_with_no_numbers(self):
        self.assertEqual(report("tell 1", ()), lines("0 more found", "0 out found", "fewest", "more 1"))

    def test_found_with_several_numbers(self):
        text = "take a -1 0\ntake b 5 6\ntake c 2 2\ntell b"
        self.assertEqual(report(text, ()), lines("0 out found -1 5 2", "fewest", "more 1"))

    def test_the_number_of_the_trial(self):
        text = "take a 0 9\nif a != 4 go 2\ntell 1"
        told = report(text, ((0,), (4,), (5,))).split("\n")
        self.assertEqual(told[-4:-2], ["1 more trial 1", "1 out trial 1"])
        self.assertEqual(told[-2:], ["fewest 1 2", "more 0"])

    def test_fewest_with_none(self):
        self.assertEqual(report("skip", ((),)), lines("fewest", "more 0"))
        self.assertEqual(report("tell 1", ((),)), lines("0 more trial 0", "0 out trial 0", "fewest 0", "more 0"))

    def test_no_fakes(self):
        for text in ("", "#", "skip", "take a 0 1\nname b\nskip\nskip"):
            self.assertEqual(report(text, ()), "fewest\nmore 0")

    def test_no_line_feed_at_the_end(self):
        for text in ("", TEXT, "tell 1\n"):
            told = report(text, ())
            self.assertFalse(told.endswith("\n"))
            self.assertFalse(told.startswith("\n"))
            for line in told.split("\n"):
                self.assertEqual(line, " ".join(line.split()))
                self.assertNotEqual(line, "")

    def test_refused_texts(self):
        for kind, line, text in ((NoLine, 1, "jump"), (Twice, 3, "\nname a\nname a"), (NoName, 1, "tell a"),
                                 (NoPlace, 2, "skip\ngo 3")):
            for many in (0, 1, 10, 11, 30):
                with self.subTest(text=text, many=many):
                    with self.assertRaises(kind) as taken:
                        report(text, ((),) * many)
                    self.assertEqual(taken.exception.line, line)

    def test_too_many_trials(self):
        self.assertIn("fewest", report(TEXT, ((1,),) * 10))
        for text in (TEXT, "take a 0 1"):
            for many in (11, 12):
                with self.assertRaises(TooMany) as taken:
                    report(text, ((1,),) * many)
                self.assertEqual(taken.exception.number, many)

    def test_a_limit(self):
        self.assertEqual(report("skip\ntell 1", ((),), 1), lines("1 more table", "1 out table", "fewest", "more 0"))
        self.assertEqual(report("skip\ntell 1", ((),), 2),
                         lines("1 more trial 0", "1 out trial 0", "fewest 0", "more 0"))

    def test_the_limit_left_out_is_one_hundred(self):
        # Each round does three rows, and the last one does the if and the tell: 3 n + 2 rows.
        text = "take n 0 40\nif n = 0 go 3\nput n n - 1\ngo 0\ntell 8"
        self.assertEqual(report(text, ((32,),)), report(text, ((32,),), 100))
        self.assertIn("3 out trial 0", report(text, ((32,),)))
        self.assertIn("3 out found 0", report(text, ((33,),)))
        self.assertIn("3 out trial 0", report(text, ((33,),), 101))

    def test_by_its_parts(self):
        for seed, program in enumerate(some_programs(110, 30)):
            trials = tuple(some_inputs(seed, seed % 5, len(program[0])))
            told = report(shown(program), trials, 25).split("\n")
            self.assertEqual(read(shown(program)), program)
            expected = []
            for fake, verdict in zip(fakes(program), verdicts(program, trials, 25)):
                words = [fake[0], fake[1], verdict[0]]
                words += [verdict[1]] if verdict[0] == "trial" else verdict[1] if verdict[0] == "found" else []
                expected.append(" ".join(map(str, words)))
            numbers = fewest(bits_of(program, trials, 25), len(trials))
            expected.append(" ".join(["fewest"] + [str(i) for i in numbers]))
            expected.append(f"more {len(more_trials(program, trials, 25))}")
            self.assertEqual(told, expected)


if __name__ == "__main__":
    unittest.main()
