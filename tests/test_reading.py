import unittest

from fakehunt.errors import HuntError, NoLine, NoName, NoPlace, TextError, Twice
from fakehunt.reading import read
from samples import HIGH, IF_SIGNS, LOW, NOTHING, PUT_SIGNS, SKIP, SUMMING, kinds_are_plain, name, number

FOUR = (NoLine, Twice, NoName, NoPlace)


def lines(*texts):
    return "\n".join(texts)


class ReadTest(unittest.TestCase):
    def check(self, text, program):
        with self.subTest(text=text):
            self.assertEqual(read(text), program)
            self.assertTrue(kinds_are_plain(read(text)))

    def test_the_text_without_signs(self):
        self.check("", NOTHING)

    def test_nothing_but_lines_passed_over(self):
        for text in ("\n", "\n\n\n", "#", "# take a 0 1", "#\n", "\n#", "##\n\n#x\n"):
            self.check(text, NOTHING)

    def test_a_whole_program(self):
        self.check(lines(
            "take n 0 9", "name sum",
            "if n <= 0 go 4", "put sum sum + n", "put n n - 1", "go 0", "tell sum",
        ), SUMMING)

    def test_takes(self):
        self.check("take a 0 0", (((0, 0),), 1, ()))
        self.check("take a -1000000000 999999999", (((LOW, HIGH),), 1, ()))
        self.check("take a -3 -3", (((-3, -3),), 1, ()))
        self.check(lines("take b 1 2", "take a 3 4"), (((1, 2), (3, 4)), 2, ()))

    def test_names(self):
        self.check("name a", ((), 1, ()))
        self.check("name abcdefgh", ((), 1, ()))
        self.check(lines("name b", "name a"), ((), 2, ()))
        self.check(lines("take c 0 1", "name b", "name a"), (((0, 1),), 3, ()))

    def test_puts(self):
        for sign in PUT_SIGNS:
            self.check(f"name a\nname b\nput b a {sign} b", ((), 2, (("put", 1, name(0), sign, name(1)),)))
            self.check(f"name a\nput a 5 {sign} -7", ((), 1, (("put", 0, number(5), sign, number(-7)),)))
            self.check(f"name a\nput a a {sign} 1", ((), 1, (("put", 0, name(0), sign, number(1)),)))
            self.check(f"name a\nput a 1 {sign} a", ((), 1, (("put", 0, number(1), sign, name(0)),)))

    def test_ifs(self):
        for sign in IF_SIGNS:
            self.check(f"name a\nname b\nif a {sign} b go 1", ((), 2, (("if", name(0), sign, name(1), 1),)))
            self.check(f"if 5 {sign} -7 go 0", ((), 0, (("if", number(5), sign, number(-7), 0),)))
            self.check(f"name a\nif a {sign} 0 go 0", ((), 1, (("if", name(0), sign, number(0), 0),)))
            self.check(f"name a\nif 0 {sign} a go 0", ((), 1, (("if", number(0), sign, name(0), 0),)))

    def test_go_tell_and_skip(self):
        self.check("go 0", ((), 0, (("go", 0),)))
        self.check("go 1", ((), 0, (("go", 1),)))
        self.check("tell 0", ((), 0, (("tell", number(0)),)))
        self.check("tell -1000000000", ((), 0, (("tell", number(LOW)),)))
        self.check("name a\nname b\ntell b", ((), 2, (("tell", name(1)),)))
        self.check("skip", ((), 0, (SKIP,)))

    def test_lines_passed_over_ahead_between_and_behind(self):
        self.check(lines(
            "", "# ahead", "take n 0 9", "", "#between", "name sum", "#\tand a tab  ",
            "if n <= 0 go 4", "", "put sum sum + n", "put n n - 1", "# tell n", "go 0", "tell sum", "", "# behind", "",
        ), SUMMING)

    def test_a_line_feed_at_the_end(self):
        self.check("skip\n", ((), 0, (SKIP,)))
        self.check("\nskip\n\n", ((), 0, (SKIP,)))

    def test_names_that_begin_one_another(self):
        self.check(
            lines("take ab 0 1", "take a 0 1", "name abc", "put a ab - abc", "tell a"),
            (((0, 1), (0, 1)), 3, (("put", 1, name(0), "-", name(2)), ("tell", name(1)))),
        )

    def test_names_that_are_words_of_the_lines(self):
        self.check(
            lines("take take 0 1", "take go 0 1", "name mod", "name if", "name put", "put put mod mod take",
                  "if if < go go 0", "tell put", "put mod mod mod mod"),
            (((0, 1), (0, 1)), 5, (
                ("put", 4, name(2), "mod", name(0)), ("if", name(3), "<", name(1), 0), ("tell", name(4)),
                ("put", 2, name(2), "mod", name(2)),
            )),
        )
        self.check(
            lines("name name", "name tell", "name skip", "tell tell", "put name name / skip", "skip"),
            ((), 3, (("tell", name(1)), ("put", 0, name(0), "/", name(2)), SKIP)),
        )

    def test_the_limits_just_reached(self):
        self.check(
            lines("take a 0 1", "take b 0 2", "take c 0 3", "name d", "name e", *["skip"] * 12),
            (((0, 1), (0, 2), (0, 3)), 5, (SKIP,) * 12),
        )
        self.check(lines(*["name " + each for each in "abcde"]), ((), 5, ()))
        self.check(lines(*["skip"] * 11, "go 12"), ((), 0, (SKIP,) * 11 + (("go", 12),)))

    def test_places_ahead_and_the_end(self):
        self.check(lines("go 2", "if 0 = 0 go 3", "go 0"), (
            (), 0, (("go", 2), ("if", number(0), "=", number(0), 3), ("go", 0)),
        ))


class RefusedTest(unittest.TestCase):
    def check(self, kind, line, *texts):
        with self.subTest(texts=texts):
            with self.assertRaises(TextError) as taken:
                read(lines(*texts))
            self.assertIs(type(taken.exception), kind)
            self.assertEqual(taken.exception.line, line)
            self.assertIs(type(taken.exception.line), int)
            self.assertIsInstance(taken.exception, HuntError)
            for other in FOUR:
                self.assertEqual(isinstance(taken.exception, other), other is kind)

    def test_blanks_and_tabs(self):
        good = ("take a 0 9", "name b", "put b a + 1", "if a < b go 1", "go 0", "tell a", "skip")
        for i in range(len(good)):
            words = good[i].split(" ")
            bad = [" " + good[i], good[i] + " ", "\t" + good[i], good[i] + "\t", good[i] + " #"]
            for k in range(1, len(words)):
                for gap in ("  ", "\t", " \t", ""):
                    bad.append(" ".join(words[:k]) + gap + " ".join(words[k:]))
            for line in bad:
                self.check(NoLine, i + 1, *good[:i], line, *good[i + 1:])

    def test_lines_of_blanks_and_blanks_ahead_of_a_remark(self):
        for line in (" ", "  ", "\t", " \t ", " #", " # so", "\t#"):
            self.check(NoLine, 2, "skip", line, "skip")
            self.check(NoLine, 1, line)

    def test_words_too_few_or_too_many(self):
        for line in ("take", "take c", "take c 0", "take c 0 1 2", "take c 0 1 d", "name", "name c d", "name c 0"):
            self.check(NoLine, 2, "take a 0 1", line)
        rows = (
            "put", "put a", "put a a", "put a a +", "put a a + a a", "put a + a", "if", "if a", "if a <", "if a < a",
            "if a < a go", "if a < a 0", "if a < a go 0 0", "if a < a go 0 go", "go", "go 0 0", "tell", "tell a a",
            "tell a 0", "skip skip", "skip 0", "skip a",
        )
        for row in rows:
            self.check(NoLine, 2, "take a 0 1", row)

    def test_other_first_words(self):
        for line in ("Take a 0 1", "SKIP", "Skip", "takes a 0 1", "tak a 0 1", "skipp", "a", "0", "put:", "jump 0"):
            self.check(NoLine, 1, line)

    def test_signs_of_the_other_kind_of_row(self):
        for sign in IF_SIGNS + ("==", "**", "//", "%", "MOD", "^", "and", "++", "a", "0", "modd"):
            self.check(NoLine, 2, "name a", f"put a a {sign} a")
        for sign in PUT_SIGNS + ("==", "=<", "=>", "<>", "=!", "!", "is", "a", "0"):
            self.check(NoLine, 2, "name a", f"if a {sign} a go 0")

    def test_words_that_are_no_names(self):
        for word in ("A", "a1", "abcdefghi", "1", "-1", "a_b", "+", "a-", "-a"):
            self.check(NoLine, 1, f"take {word} 0 1")
            self.check(NoLine, 1, f"name {word}")
            self.check(NoLine, 2, "name a", f"put {word} a + a")

    def test_words_that_are_no_operands(self):
        for word in ("A", "a1", "abcdefghi", "01", "-0", "+1", "1000000000", "-1000000001", "00", "1_0", "+"):
            self.check(NoLine, 2, "name a", f"put a {word} + a")
            self.check(NoLine, 2, "name a", f"put a a + {word}")
            self.check(NoLine, 2, "name a", f"if {word} < a go 0")
            self.check(NoLine, 2, "name a", f"if a < {word} go 0")
            self.check(NoLine, 2, "name a", f"tell {word}")

    def test_words_that_are_no_stretches(self):
        for low, high in (("1", "0"), ("0", "-1"), ("999999999", "-1000000000"), ("-1", "-2"), ("a", "0"), ("0", "a"),
                          ("00", "1"), ("0", "01"), ("-0", "1"), ("0", "1000000000"), ("-1000000001", "0")):
            self.check(NoLine, 1, f"take a {low} {high}")

    def test_words_that_are_no_places(self):
        for word in ("a", "-1", "01", "00", "100", "+1", "", "1a"):
            self.check(NoLine, 1, f"go {word}")
            self.check(NoLine, 1, f"if 0 = 0 go {word}")

    def test_other_words_in_the_place_of_go(self):
        for word in ("Go", "goto", "to", "g", "0"):
            self.check(NoLine, 1, f"if 0 = 0 {word} 0")

    def test_lines_where_they_may_not_stand(self):
        self.check(NoLine, 2, "name a", "take b 0 1")
        self.check(NoLine, 2, "skip", "take b 0 1")
        self.check(NoLine, 2, "skip", "name b")
        self.check(NoLine, 3, "take a 0 1", "name b", "take c 0 1")
        self.check(NoLine, 4, "take a 0 1", "name b", "skip", "name c")
        self.check(NoLine, 4, "take a 0 1", "name b", "skip", "take c 0 1")

    def test_one_too_many(self):
        takes = ["take a 0 1", "take b 0 1", "take c 0 1"]
        self.check(NoLine, 4, *takes, "take d 0 1")
        self.check(NoLine, 6, *takes, "name d", "name e", "name f")
        self.check(NoLine, 6, "name a", "name b", "name c", "name d", "name e", "name f")
        self.check(NoLine, 6, "take a 0 1", "name b", "name c", "name d", "name e", "name f")
        self.check(NoLine, 13, *["skip"] * 13)
        self.check(NoLine, 15, "", "#", *["skip"] * 13)
        for row in ("go 0", "tell 1", "if 0 = 0 go 0"):
            self.check(NoLine, 13, *["skip"] * 12, row)

    def test_twice(self):
        self.check(Twice, 2, "take a 0 1", "take a 0 1")
        self.check(Twice, 2, "take a 0 1", "take a 2 3")
        self.check(Twice, 2, "take a 0 1", "name a")
        self.check(Twice, 2, "name a", "name a")
        self.check(Twice, 3, "name a", "name b", "name a")
        self.check(Twice, 3, "take a 0 1", "take b 0 1", "name b")

    def test_no_name(self):
        for row in ("put b a + a", "put a b + a", "put a a + b", "put b b + b", "if b < a go 0", "if a < b go 0",
                    "tell b", "tell aa", "put a a mod mod", "tell go"):
            self.check(NoName, 2, "name a", row)
        self.check(NoName, 1, "tell a")
        self.check(NoName, 3, "take ab 0 1", "name abc", "tell a")

    def test_no_place(self):
        self.check(NoPlace, 1, "go 2")
        self.check(NoPlace, 1, "go 99")
        self.check(NoPlace, 1, "if 0 = 0 go 2")
        self.check(NoPlace, 2, "go 3", "go 4", "skip")
        self.check(NoPlace, 3, "go 3", "go 0", "if 0 = 0 go 4")
        self.check(NoPlace, 1, *["go 13"] * 12)
        self.check(NoPlace, 2, "name a", "go 2")

    def test_lines_passed_over_count(self):
        self.check(NoLine, 4, "", "# so", "", "jump")
        self.check(Twice, 5, "#", "name a", "", "", "name a")
        self.check(NoName, 4, "name a", "", "#", "tell b")
        self.check(NoPlace, 3, "", "#", "go 2", "", "#")

    def test_two_faults_on_one_line(self):
        self.check(NoLine, 4, "take a 0 1", "take b 0 1", "take c 0 1", "take a 0 1")
        self.check(NoLine, 6, "name a", "name b", "name c", "name d", "name e", "name a")
        self.check(NoLine, 2, "name a", "take a 0 1")
        self.check(NoLine, 2, "skip", "name a")
        self.check(NoLine, 2, "name a", "take a 1 0")
        self.check(NoLine, 13, *["skip"] * 12, "tell b")
        self.check(NoLine, 13, *["skip"] * 12, "go 14")
        self.check(NoLine, 1, "put b b < b")
        self.check(NoLine, 1, "tell b b")
        self.check(NoName, 1, "if b < 0 go 9")

    def test_two_faults_on_two_lines(self):
        self.check(NoLine, 3, "name a", "skip", "jump", "tell b")
        self.check(NoName, 3, "name a", "skip", "tell b", "jump")
        self.check(NoLine, 1, "jump", "name a", "name a")
        self.check(Twice, 2, "name a", "name a", "jump")
        self.check(Twice, 2, "name a", "name a", "tell b")
        self.check(NoName, 2, "name a", "tell b", "name a")
        self.check(NoName, 1, "tell b", "name b")
        self.check(NoLine, 2, "name a", "jump", "name b", "name b", "tell c")

    def test_a_place_is_refused_behind_all_else(self):
        self.check(NoLine, 2, "go 9", "jump")
        self.check(NoLine, 1, "jump", "go 9")
        self.check(NoName, 2, "go 9", "tell b")
        self.check(NoName, 1, "tell b", "go 9")
        self.check(NoLine, 2, "go 9", "name a")
        self.check(NoLine, 13, "go 99", *["skip"] * 12)
        self.check(Twice, 2, "name a", "name a", "go 9")
        self.check(NoPlace, 1, "go 9", "go 8")
        self.check(NoPlace, 2, "go 2", "go 8")


if __name__ == "__main__":
    unittest.main()
