"""Fakes in order by their bits, and choices of trials that hit them."""

from fakehunt.common import all_bits, are_within, without_bit


def above(one, other):
    return one != 0 and are_within(one, other)


def is_topmost(bits, i):
    if bits[i] == 0 or bits[i] in bits[:i]:
        return False
    return not any([above(other, bits[i]) and other != bits[i] for other in bits])


def topmost(bits):
    return tuple([i for i in range(len(bits)) if is_topmost(bits, i)])


def hits(choice, bits):
    return all([each == 0 or each & choice != 0 for each in bits])


def spared(bits, many):
    choice = all_bits(many)
    for i in range(many - 1, -1, -1):
        left = without_bit(choice, i)
        if hits(left, bits):
            choice = left
    return choice
