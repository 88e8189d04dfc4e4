"""Made code: rows that do the same are, as far as one row shows it, brought to the same form."""

from fakehunt.common import replaced
from fakehunt.numbers import HIGHEST, LOWEST, around, is_so, reckon

NOUGHT = ("number", 0)
ONE = ("number", 1)
SKIP = ("skip",)


def are_numbers(y, z):
    return y[0] == "number" and z[0] == "number"


def lesser_first(row, i, j):
    # As texts "name" lies before "number", so operands compare as the order asks.
    if row[j] < row[i]:
        return replaced(replaced(row, i, row[j]), j, row[i])
    return row


def less_as_more(row):
    if row[3] == "-" and row[4][0] == "number":
        return row[:3] + ("+", ("number", around(-row[4][1])))
    return row


# The put is no more of two numbers here, and a factor that is a number stands behind.
def without_reckoning(row):
    y = row[2]
    sign = row[3]
    z = row[4]
    if (sign == "*" and z == NOUGHT) or (sign == "mod" and z == ONE) or (sign == "-" and y == z):
        return ("put", row[1], NOUGHT, "+", NOUGHT)
    if sign in ("*", "/") and z == ONE:
        return ("put", row[1], y, "+", NOUGHT)
    return row


def made_put(row):
    if are_numbers(row[2], row[4]):
        return ("put", row[1], ("number", reckon(row[2][1], row[3], row[4][1])), "+", NOUGHT)
    row = less_as_more(row)
    if row[3] in ("+", "*"):
        row = lesser_first(row, 2, 4)
    row = without_reckoning(row)
    if row == ("put", row[1], ("name", row[1]), "+", NOUGHT):
        return SKIP
    return row


def greater_as_less(row):
    if row[2] == ">":
        return ("if", row[3], "<", row[1], row[4])
    if row[2] == ">=":
        return ("if", row[3], "<=", row[1], row[4])
    return row


def is_settled(row):
    return are_numbers(row[1], row[3]) or row[1] == row[3]


def settled(row):
    # Of twice the same name any one number says whether it is so.
    so = is_so(row[1][1], row[2], row[3][1])
    return ("go", row[4]) if so else SKIP


def most_as_less(row):
    y = row[1]
    z = row[3]
    if row[2] != "<=":
        return row
    if z[0] == "number" and z[1] < HIGHEST:
        return ("if", y, "<", ("number", z[1] + 1), row[4])
    if y[0] == "number" and y[1] > LOWEST:
        return ("if", ("number", y[1] - 1), "<", z, row[4])
    return row


def made_if(row, k):
    if row[4] == k + 1:
        return SKIP
    row = greater_as_less(row)
    if is_settled(row):
        return settled(row)
    if row[2] in ("=", "!="):
        row = lesser_first(row, 1, 3)
    return most_as_less(row)


def made_row(row, k):
    if row[0] == "put":
        return made_put(row)
    if row[0] == "if":
        return made_if(row, k)
    if row == ("go", k + 1):
        return SKIP
    return row


def made(program):
    rows = [made_row(row, k) for k, row in enumerate(program[2])]
    return (program[0], program[1], tuple(rows))
