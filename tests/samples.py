"""Programs that several tests use, and a maker of many more, the same ones each time."""

import random

LOW = -1000000000
HIGH = 999999999

PUT_SIGNS = ("+", "-", "*", "/", "mod")
IF_SIGNS = ("<", "<=", "=", ">=", ">", "!=")
SKIP = ("skip",)
NOTHING = ((), 0, ())


def name(i):
    return ("name", i)


def number(c):
    return ("number", c)


# Takes one number and tells the sum of all from it down to 1.
SUMMING = (((0, 9),), 2, (
    ("if", name(0), "<=", number(0), 4),
    ("put", 1, name(1), "+", name(0)),
    ("put", 0, name(0), "-", number(1)),
    ("go", 0),
    ("tell", name(1)),
))

# Takes two numbers and tells the greater one.
GREATER = (((-3, 4), (-3, 4)), 2, (
    ("if", name(0), "<", name(1), 2),
    ("tell", name(0)),
    ("tell", name(1)),
))


def one_operand(chance, many):
    if many and chance.random() < 0.6:
        return name(chance.randrange(many))
    return number(chance.choice((0, 0, 1, 1, -1, 2, 3, -5, LOW, LOW + 1, HIGH, HIGH - 1)))


def one_row(chance, names, rows):
    kind = chance.choice(("put", "put", "put", "if", "if", "if", "go", "tell", "skip"))
    y = one_operand(chance, names)
    z = one_operand(chance, names)
    place = chance.randrange(rows + 1)
    if kind == "put" and names:
        return ("put", chance.randrange(names), y, chance.choice(PUT_SIGNS), z)
    if kind == "if":
        return ("if", y, chance.choice(IF_SIGNS), z, place)
    if kind == "go":
        return ("go", place)
    if kind == "tell":
        return ("tell", y)
    return SKIP


def one_stretch(chance):
    low = chance.choice((LOW, -9, -4, -1, 0, 0, 1, HIGH - 3))
    return (low, min(HIGH, low + chance.choice((0, 1, 2, 3, 5, 9))))


def one_program(chance, most_rows=12, takes=None, names=None):
    takes = chance.randrange(4) if takes is None else takes
    names = chance.randrange(takes, 6) if names is None else names
    rows = chance.randrange(most_rows + 1)
    return (
        tuple(one_stretch(chance) for i in range(takes)), names,
        tuple(one_row(chance, names, rows) for k in range(rows)),
    )


def some_programs(seed, many, most_rows=12, takes=None, names=None):
    chance = random.Random(seed)
    return [one_program(chance, most_rows, takes, names) for i in range(many)]


def some_inputs(seed, many, takes):
    chance = random.Random(seed)
    numbers = (LOW, LOW + 1, -5, -2, -1, 0, 1, 2, 3, 7, HIGH - 1, HIGH)
    return [tuple(chance.choice(numbers) for i in range(takes)) for k in range(many)]


def kinds_are_plain(thing):
    """Whether a thing is made of whole numbers, texts, None, truths and tuples alone."""
    if type(thing) is tuple:
        return all(kinds_are_plain(part) for part in thing)
    return thing is None or type(thing) in (int, str, bool)
