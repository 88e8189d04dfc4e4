"""Two programs side by side: where they part, and whether an input tells them."""

from fakehunt.machine import outcome, trail


def parting(one, other, inputs, limit=100):
    things = trail(one, inputs, limit)
    beside = trail(other, inputs, limit)
    # Only its last thing is an outcome, so no trail is the beginning of another one.
    for n in range(min(len(things), len(beside))):
        if things[n] != beside[n]:
            return (n, things[n], beside[n])
    return None


def tells(one, other, inputs, limit=100):
    return outcome(one, inputs, limit) != outcome(other, inputs, limit)
