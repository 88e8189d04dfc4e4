"""Steps: the kinds of change that lead from a row to the rows one step away."""

from fakehunt.common import operand_places, replaced
from fakehunt.numbers import IF_SIGNS, PUT_SIGNS, around

CONTRARIES = {"<": ">=", ">=": "<", "<=": ">", ">": "<=", "=": "!=", "!=": "="}


def behind(ring, sign):
    return ring[(ring.index(sign) + 1) % len(ring)]


class Step:
    def word(self):
        return "none"

    def turned(self, row, many):
        return ()


class Sign(Step):
    def word(self):
        return "sign"

    def turned(self, row, many):
        if row[0] == "put":
            return (replaced(row, 3, behind(PUT_SIGNS, row[3])),)
        if row[0] == "if":
            return (replaced(row, 2, behind(IF_SIGNS, row[2])),)
        return ()


class More(Step):
    def word(self):
        return "more"

    def turned(self, row, many):
        rows = []
        for i in operand_places(row):
            if row[i][0] == "number":
                rows.append(replaced(row, i, ("number", around(row[i][1] + 1))))
        return tuple(rows)


class Turn(Step):
    def word(self):
        return "turn"

    def turned(self, row, many):
        if row[0] != "if":
            return ()
        return (replaced(row, 2, CONTRARIES[row[2]]),)


class Out(Step):
    def word(self):
        return "out"

    def turned(self, row, many):
        if row[0] == "skip":
            return ()
        return (("skip",),)


class Swap(Step):
    def word(self):
        return "swap"

    def turned(self, row, many):
        if row[0] == "put" and row[2] != row[4]:
            return (("put", row[1], row[4], row[3], row[2]),)
        if row[0] == "if" and row[1] != row[3]:
            return (("if", row[3], row[2], row[1], row[4]),)
        return ()


class Far(Step):
    def word(self):
        return "far"

    def turned(self, row, many):
        if row[0] not in ("go", "if") or row[-1] >= many:
            return ()
        return (row[:-1] + (row[-1] + 1,),)
