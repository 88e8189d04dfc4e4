"""The hunt: a verdict on each fake, and more trials that tell what no trial told."""

from fakehunt.bits import check_trials
from fakehunt.boxes import is_wide
from fakehunt.fakes import fake_of, fakes
from fakehunt.made import made
from fakehunt.papers import found_paper
from fakehunt.seeking import sought
from fakehunt.sides import parting, tells


def first_telling(one, other, trials, limit):
    for i, inputs in enumerate(trials):
        if tells(one, other, inputs, limit):
            return i
    return None


def verdict(program, other, trials, limit):
    if made(other) == made(program):
        return ("same",)
    i = first_telling(program, other, trials, limit)
    if i is not None:
        return ("trial", i, parting(program, other, trials[i], limit)[0])
    paper = found_paper(program, other)
    if paper is not None:
        return ("paper", paper)
    inputs = sought(program, other, limit)
    if inputs is not None:
        return ("found", inputs, parting(program, other, inputs, limit)[0])
    return ("unknown",) if is_wide(program) else ("table",)


def verdicts(program, trials, limit=100):
    check_trials(trials)
    return tuple([verdict(program, fake_of(program, k, row), trials, limit) for k, word, row in fakes(program)])


# The trials that the verdicts call for: nothing is found for a fake with any verdict but found.
def trials_behind(program, told, limit):
    more = []
    for fake, each in zip(fakes(program), told):
        if each[0] == "found":
            other = fake_of(program, fake[0], fake[2])
            if first_telling(program, other, more, limit) is None:
                more.append(each[1])
    return tuple(more)


def more_trials(program, trials, limit=100):
    return trials_behind(program, verdicts(program, trials, limit), limit)
