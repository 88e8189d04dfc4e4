"""Pairs of places of two programs: whether they are at odds, and which pairs follow them."""

from fakehunt.common import bit_of, has_bit, operand_places, without_bit
from fakehunt.made import made_row

END = ("end",)


def row_at(program, k):
    if k >= len(program[2]):
        return END
    return made_row(program[2][k], k)


def ends_run(row):
    return row == END or row[0] == "tell"


def reads_only(row, bits):
    for i in operand_places(row):
        if row[i][0] == "name" and not has_bit(bits, row[i][1]):
            return False
    return True


def end_alike(row, beside, bits):
    return row == beside and (row == END or reads_only(row, bits))


def choose_alike(row, beside, bits):
    return row[0] == "if" and beside[0] == "if" and row[1:4] == beside[1:4] and reads_only(row, bits)


def staying(row, beside, bits):
    if row[0] == "put" and row == beside and reads_only(row, bits):
        return bits | bit_of(row[1])
    for each in (row, beside):
        if each[0] == "put":
            bits = without_bit(bits, each[1])
    return bits


def places_behind(row, k):
    if row[0] == "go":
        return (row[1],)
    if row[0] == "if":
        return (row[4], k + 1)
    return (k + 1,)


def follow(one, other, k, j, bits):
    row = row_at(one, k)
    beside = row_at(other, j)
    if ends_run(row) or ends_run(beside):
        return () if end_alike(row, beside, bits) else None
    if choose_alike(row, beside, bits):
        return ((row[4], beside[4], bits), (k + 1, j + 1, bits))
    stay = staying(row, beside, bits)
    triples = []
    for place in places_behind(row, k):
        # No made if goes on to the next place, so no pair comes twice.
        triples.extend([(place, along, stay) for along in places_behind(beside, j)])
    return tuple(triples)
