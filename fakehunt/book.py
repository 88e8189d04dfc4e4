"""The book: bits over changes of a program, running anew only what must be run."""

from fakehunt.bits import bits_unlike, check_trials
from fakehunt.common import has_bit
from fakehunt.fakes import fake_of, fakes
from fakehunt.machine import seen_in, trail

# The code of the program itself; that of a fake is (k, row).
OWN = ()


def codes_of(program):
    return [(k, row) for k, word, row in fakes(program)]


# Whether what a code's run came to stands, with the places it saw, when row j is put otherwise.
def stays(code, places, j, codes):
    if code == OWN:
        return not has_bit(places, j)
    # A fake of row j has a row of its own in that place.
    return code in codes and (code[0] == j or not has_bit(places, j))


class Book:
    def __init__(self, program, trials, limit=100):
        check_trials(trials)
        self.program = program
        self.trials = trials
        self.limit = limit
        # For each code and inputs the outcome, and the places that the run saw.
        self.kept = {}
        self.done = 0

    def program_of(self, code):
        if code == OWN:
            return self.program
        return fake_of(self.program, code[0], code[1])

    def outcome_of(self, code, inputs):
        if (code, inputs) not in self.kept:
            things = trail(self.program_of(code), inputs, self.limit)
            self.kept[(code, inputs)] = (things[-1], seen_in(things))
            self.done = self.done + 1
        return self.kept[(code, inputs)][0]

    def outcomes_of(self, code):
        return [self.outcome_of(code, inputs) for inputs in self.trials]

    def bits(self):
        own = self.outcomes_of(OWN)
        return tuple([bits_unlike(own, self.outcomes_of(code)) for code in codes_of(self.program)])

    def runs(self):
        return self.done

    def now(self):
        return self.program

    def change(self, k, row):
        self.program = fake_of(self.program, k, row)
        codes = codes_of(self.program)
        left = {}
        for key, run in self.kept.items():
            if stays(key[0], run[1], k, codes):
                left[key] = run
        self.kept = left

    def add(self, inputs):
        longer = self.trials + (inputs,)
        check_trials(longer)
        self.trials = longer
