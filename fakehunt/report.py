"""The report: all that the hunt tells of a text's program, as a text."""

from fakehunt.bits import bits_of
from fakehunt.fakes import fakes
from fakehunt.fewest import fewest
from fakehunt.hunt import trials_behind, verdicts
from fakehunt.reading import read


def line_of(words, numbers):
    return " ".join(words + [str(number) for number in numbers])


def verdict_line(fake, told):
    words = [str(fake[0]), fake[1], told[0]]
    if told[0] == "trial":
        return line_of(words, [told[1]])
    if told[0] == "found":
        return line_of(words, told[1])
    return line_of(words, [])


def report(text, trials, limit=100):
    program = read(text)
    told = verdicts(program, trials, limit)
    lines = [verdict_line(fake, each) for fake, each in zip(fakes(program), told)]
    lines.append(line_of(["fewest"], fewest(bits_of(program, trials, limit), len(trials))))
    lines.append(line_of(["more"], [len(trials_behind(program, told, limit))]))
    return "\n".join(lines)
