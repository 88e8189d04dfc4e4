"""Small numbers: bringing round, the signs of a put, the signs of an if."""

LOWEST = -1000000000
HIGHEST = 999999999
HALF = 1000000000
RING = 2000000000

# In the order of their rings: the sign behind each is the next one, behind the last the first.
PUT_SIGNS = ("+", "-", "*", "/", "mod")
IF_SIGNS = ("<", "<=", "=", ">=", ">", "!=")


def around(number):
    return (number + HALF) % RING - HALF


def divided(one, other):
    if other == 0:
        return 0
    # The lowest number by -1 is one above the highest.
    return around(one // other)


def left_over(one, other):
    if other == 0:
        return one
    return one - other * (one // other)


def reckon(one, sign, other):
    if sign == "+":
        return around(one + other)
    if sign == "-":
        return around(one - other)
    if sign == "*":
        return around(one * other)
    if sign == "/":
        return divided(one, other)
    return left_over(one, other)


def is_so(one, sign, other):
    if sign == "<":
        return one < other
    if sign == "<=":
        return one <= other
    if sign == "=":
        return one == other
    if sign == ">=":
        return one >= other
    if sign == ">":
        return one > other
    return one != other
