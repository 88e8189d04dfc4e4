"""Showing: the text that tells a program."""

from fakehunt.words import LETTERS


def operand_shown(operand):
    if operand[0] == "name":
        return LETTERS[operand[1]]
    return str(operand[1])


def words_of(row):
    if row[0] == "put":
        return ["put", LETTERS[row[1]], operand_shown(row[2]), row[3], operand_shown(row[4])]
    if row[0] == "if":
        return ["if", operand_shown(row[1]), row[2], operand_shown(row[3]), "go", str(row[4])]
    if row[0] == "go":
        return ["go", str(row[1])]
    if row[0] == "tell":
        return ["tell", operand_shown(row[1])]
    return ["skip"]


def shown(program):
    takes = program[0]
    lines = [["take", LETTERS[i], str(takes[i][0]), str(takes[i][1])] for i in range(len(takes))]
    lines.extend([["name", LETTERS[i]] for i in range(len(takes), program[1])])
    lines.extend([words_of(row) for row in program[2]])
    return "\n".join([" ".join(line) for line in lines])
