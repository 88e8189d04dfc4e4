"""The bits of the fakes: which trials tell them from the program."""

from fakehunt.errors import TooMany
from fakehunt.fakes import fake_of, fakes
from fakehunt.machine import outcome

MOST_TRIALS = 10


def check_trials(trials):
    if len(trials) > MOST_TRIALS:
        raise TooMany(len(trials))


def outcomes(program, trials, limit):
    return [outcome(program, inputs, limit) for inputs in trials]


def bits_unlike(things, beside):
    bits = 0
    bit = 1
    for thing, along in zip(things, beside):
        if thing != along:
            bits = bits + bit
        bit = bit * 2
    return bits


def bits_of(program, trials, limit=100):
    check_trials(trials)
    own = outcomes(program, trials, limit)
    told = []
    for k, word, row in fakes(program):
        told.append(bits_unlike(own, outcomes(fake_of(program, k, row), trials, limit)))
    return tuple(told)
