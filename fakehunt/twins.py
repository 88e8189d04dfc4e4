"""Twins: fakes with the same made code."""

from fakehunt.fakes import fake_of, fakes
from fakehunt.made import made


def twins(program):
    own = made(program)
    same = []
    groups = {}
    for number, fake in enumerate(fakes(program)):
        code = made(fake_of(program, fake[0], fake[2]))
        if code == own:
            same.append(number)
        else:
            groups.setdefault(code, []).append(number)
    return (tuple(same), tuple([tuple(group) for group in groups.values()]))
