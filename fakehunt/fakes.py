"""The fakes of a program: all programs one step away from it."""

from fakehunt.common import replaced
from fakehunt.steps import Far, More, Out, Sign, Swap, Turn


def fakes(program):
    rows = program[2]
    steps = [Sign(), More(), Turn(), Out(), Swap(), Far()]
    told = []
    for k, row in enumerate(rows):
        for step in steps:
            told.extend([(k, step.word(), other) for other in step.turned(row, len(rows))])
    return tuple(told)


def fake_of(program, k, row):
    return (program[0], program[1], replaced(program[2], k, row))
