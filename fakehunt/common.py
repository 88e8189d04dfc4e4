"""What several modules need: tuples with one thing put otherwise, and where a row has its operands."""

OPERAND_PLACES = {"put": (2, 4), "if": (1, 3), "tell": (1,), "go": (), "skip": ()}


def replaced(things, i, thing):
    return things[:i] + (thing,) + things[i + 1:]


def operand_places(row):
    return OPERAND_PLACES[row[0]]
