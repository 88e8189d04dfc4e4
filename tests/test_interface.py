"""All that is to be there under its name: where it lies, its arguments, and the limit that is left out."""

import importlib
import inspect
import unittest

FUNCTIONS = {
    "numbers": {"around": "number", "reckon": "one, sign, other", "is_so": "one, sign, other"},
    "machine": {
        "worth": "operand, values", "began": "program, inputs", "moved": "program, state",
        "trail": "program, inputs, limit=100", "outcome": "program, inputs, limit=100",
        "seen": "program, inputs, limit=100",
    },
    "words": {"is_name": "word", "number_in": "word", "place_in": "word"},
    "reading": {"read": "text"},
    "showing": {"shown": "program"},
    "fakes": {"fakes": "program", "fake_of": "program, k, row"},
    "made": {"made_row": "row, k", "made": "program"},
    "twins": {"twins": "program"},
    "sides": {"parting": "one, other, inputs, limit=100", "tells": "one, other, inputs, limit=100"},
    "pairs": {"follow": "one, other, k, j, bits"},
    "papers": {"found_paper": "one, other"},
    "walking": {"paper_kept": "one, other, paper"},
    "boxes": {"width": "program", "box": "program", "menu": "program", "tried": "program"},
    "seeking": {"sought": "one, other, limit=100"},
    "bits": {"bits_of": "program, trials, limit=100"},
    "order": {"above": "one, other", "topmost": "bits", "hits": "choice, bits", "spared": "bits, many"},
    "fewest": {"fewest": "bits, many", "strangers": "bits, size", "shown_fewest": "bits, many"},
    "hunt": {"verdicts": "program, trials, limit=100", "more_trials": "program, trials, limit=100"},
    "report": {"report": "text, trials, limit=100"},
}

METHODS = {
    "steps": {kind: {"word": "self", "turned": "self, row, many"}
              for kind in ("Step", "Sign", "More", "Turn", "Out", "Swap", "Far")},
    "book": {"Book": {
        "__init__": "self, program, trials, limit=100", "bits": "self", "runs": "self", "now": "self",
        "change": "self, k, row", "add": "self, inputs",
    }},
}


class InterfaceTest(unittest.TestCase):
    def check(self, thing, arguments):
        self.assertEqual(str(inspect.signature(thing)), f"({arguments})")

    def test_functions(self):
        for file, functions in FUNCTIONS.items():
            module = importlib.import_module("fakehunt." + file)
            for name, arguments in functions.items():
                with self.subTest(file=file, name=name):
                    self.check(getattr(module, name), arguments)

    def test_classes(self):
        for file, classes in METHODS.items():
            module = importlib.import_module("fakehunt." + file)
            for kind, methods in classes.items():
                for name, arguments in methods.items():
                    with self.subTest(file=file, kind=kind, name=name):
                        self.check(getattr(getattr(module, kind), name), arguments)


if __name__ == "__main__":
    unittest.main()
