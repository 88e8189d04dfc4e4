"""Seeking an input that tells two programs."""

from fakehunt.boxes import tried
from fakehunt.sides import tells


def sought(one, other, limit=100):
    for inputs in tried(one):
        if tells(one, other, inputs, limit):
            return inputs
    return None
