import unittest

from fakehunt.reading import read
from fakehunt.showing import shown
from samples import (GREATER, HIGH, IF_SIGNS, LOW, NOTHING, PUT_SIGNS, SKIP, SUMMING, name, number, some_programs)


class ShownTest(unittest.TestCase):
    def check(self, program, *texts):
        with self.subTest(program=program):
            self.assertEqual(shown(program), "\n".join(texts))
            self.assertEqual(read(shown(program)), program)

    def test_nothing(self):
        self.assertEqual(shown(NOTHING), "")
        self.assertEqual(read(""), NOTHING)

    def test_whole_programs(self):
        self.check(SUMMING, "take a 0 9", "name b", "if a <= 0 go 4", "put b b + a", "put a a - 1", "go 0", "tell b")
        self.check(GREATER, "take a -3 4", "take b -3 4", "if a < b go 2", "tell a", "tell b")

    def test_takes_alone(self):
        self.check((((LOW, HIGH),), 1, ()), "take a -1000000000 999999999")
        self.check((((0, 0), (-2, -1), (3, 4)), 3, ()), "take a 0 0", "take b -2 -1", "take c 3 4")

    def test_names_alone(self):
        self.check(((), 1, ()), "name a")
        self.check(((), 5, ()), "name a", "name b", "name c", "name d", "name e")

    def test_takes_and_names(self):
        self.check((((0, 1), (0, 1)), 5, ()), "take a 0 1", "take b 0 1", "name c", "name d", "name e")

    def test_rows_alone(self):
        self.check(((), 0, (SKIP,)), "skip")
        self.check(((), 0, (SKIP,) * 12), *["skip"] * 12)
        self.check(((), 0, (("go", 2), ("tell", number(-7)))), "go 2", "tell -7")

    def test_every_sign(self):
        for sign in PUT_SIGNS:
            self.check(((), 5, (("put", 4, name(3), sign, name(2)),)), *["name " + each for each in "abcde"],
                       f"put e d {sign} c")
            self.check(((), 1, (("put", 0, number(LOW), sign, number(HIGH)),)), "name a",
                       f"put a -1000000000 {sign} 999999999")
        for sign in IF_SIGNS:
            self.check(((), 2, (("if", name(1), sign, number(0), 1),)), "name a", "name b", f"if b {sign} 0 go 1")

    def test_shown_and_read_again(self):
        for program in some_programs(10, 300):
            with self.subTest(program=program):
                self.assertEqual(read(shown(program)), program)
                self.assertFalse(shown(program).endswith("\n"))

    def test_a_text_with_other_names_is_shown_with_these(self):
        text = "# so\ntake left 1 2\n\nname right\nput right left mod -3\ntell right\n"
        self.assertEqual(shown(read(text)), "take a 1 2\nname b\nput b a mod -3\ntell b")

    def test_more_names_than_five_are_not_refused(self):
        self.assertEqual(shown(((), 7, (("tell", name(6)),))).split("\n")[-2:], ["name g", "tell g"])


if __name__ == "__main__":
    unittest.main()
