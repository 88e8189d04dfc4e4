"""Runs of a program: states, how they are moved, trails and what they tell."""

from fakehunt.common import bit_of, replaced
from fakehunt.numbers import is_so, reckon


def worth(operand, values):
    if operand[0] == "name":
        return values[operand[1]]
    return operand[1]


def began(program, inputs):
    return (0, inputs + (0,) * (program[1] - len(inputs)))


def at_end(program, state):
    return state[0] >= len(program[2])


def values_behind(row, values):
    if row[0] != "put":
        return values
    number = reckon(worth(row[2], values), row[3], worth(row[4], values))
    return replaced(values, row[1], number)


def place_behind(row, k, values):
    if row[0] == "go":
        return row[1]
    if row[0] == "if" and is_so(worth(row[1], values), row[2], worth(row[3], values)):
        return row[4]
    return k + 1


def moved(program, state):
    if at_end(program, state):
        return ("none",)
    k = state[0]
    values = state[1]
    row = program[2][k]
    if row[0] == "tell":
        return ("told", worth(row[1], values))
    return (place_behind(row, k, values), values_behind(row, values))


def is_outcome(thing):
    # A state begins with the number of a place, an outcome with a word.
    return isinstance(thing[0], str)


def trail(program, inputs, limit=100):
    state = began(program, inputs)
    things = [state]
    for done in range(limit):
        thing = moved(program, state)
        things.append(thing)
        if is_outcome(thing):
            return tuple(things)
        state = thing
    # The end is no row: a run that stands there has come to it in time.
    things.append(("none",) if at_end(program, state) else ("late",))
    return tuple(things)


def outcome(program, inputs, limit=100):
    return trail(program, inputs, limit)[-1]


def places_done(things):
    states = things[:-1]
    # A tell is a row that leaves no state behind it; the other outcomes do no row.
    if things[-1][0] != "told":
        states = states[:-1]
    return [state[0] for state in states]


def seen_in(things):
    bits = 0
    for k in places_done(things):
        bits = bits | bit_of(k)
    return bits


def seen(program, inputs, limit=100):
    return seen_in(trail(program, inputs, limit))
