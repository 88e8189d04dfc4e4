"""The fewest trials that hit, and the rows of strangers that show that no fewer do."""

from fakehunt.common import bit_of


# The first choice of so many numbers from first on that hits, or None; of the bits none is 0.
def first_choice(bits, first, many, size):
    if size == 0:
        return () if len(bits) == 0 else None
    for i in range(first, many):
        bit = bit_of(i)
        rest = first_choice([each for each in bits if each & bit == 0], i + 1, many, size - 1)
        if rest is not None:
            return (i,) + rest
    return None


def unlike_fakes(bits):
    return [i for i, each in enumerate(bits) if each != 0 and each not in bits[:i]]


def fewest(bits, many):
    unlike = [bits[i] for i in unlike_fakes(bits)]
    for size in range(many):
        choice = first_choice(unlike, 0, many, size)
        if choice is not None:
            return choice
    # What any trial tells all of them together tell.
    return tuple(range(many))


# The first row of so many strangers among the fakes with these numbers, which are rising, or None.
def first_row(bits, numbers, size):
    if size == 0:
        return ()
    for place, number in enumerate(numbers):
        others = [other for other in numbers[place + 1:] if bits[other] & bits[number] == 0]
        if len(others) >= size - 1:
            rest = first_row(bits, others, size - 1)
            if rest is not None:
                return (number,) + rest
    return None


def strangers(bits, size):
    # Of fakes with the same bits no two are strangers, and the first of them goes first.
    return first_row(bits, unlike_fakes(bits), size)


def shown_fewest(bits, many):
    choice = fewest(bits, many)
    return (choice, strangers(bits, len(choice)))
