"""Boxes: the inputs that a program's stretches hold, and which of them are tried."""

from fakehunt.errors import TooWide

WIDEST = 64


def width(program):
    many = 1
    for low, high in program[0]:
        many = many * (high - low + 1)
    return many


# All inputs with one of the numbers at each place, by the first number, then by the second, and so on.
def inputs_of(numbers_taken):
    told = [()]
    for numbers in numbers_taken:
        longer = []
        for inputs in told:
            longer.extend([inputs + (number,) for number in numbers])
        told = longer
    return tuple(told)


def is_wide(program):
    return width(program) > WIDEST


def box(program):
    if is_wide(program):
        raise TooWide(width(program))
    return inputs_of([list(range(low, high + 1)) for low, high in program[0]])


def menu_numbers(low, high):
    numbers = []
    for number in (low, (low + high) // 2, high):
        if number not in numbers:
            numbers.append(number)
    return numbers


def menu(program):
    return inputs_of([menu_numbers(low, high) for low, high in program[0]])


def tried(program):
    return menu(program) if is_wide(program) else box(program)
