"""What several modules need: tuples with one thing put otherwise, where a row has its operands, and bits."""

OPERAND_PLACES = {"put": (2, 4), "if": (1, 3), "tell": (1,), "go": (), "skip": ()}


def replaced(things, i, thing):
    return things[:i] + (thing,) + things[i + 1:]


def operand_places(row):
    return OPERAND_PLACES[row[0]]


def bit_of(i):
    bit = 1
    for times in range(i):
        bit = bit * 2
    return bit


def all_bits(many):
    return bit_of(many) - 1


def has_bit(bits, i):
    return bits & bit_of(i) != 0


def without_bit(bits, i):
    return bits & ~bit_of(i)


# True where each of the few is among the bits.
def are_within(few, bits):
    return few & bits == few
