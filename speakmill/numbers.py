"""Two numbers under a sign, and how great a number may be."""

# 10 ** 40
GREATEST = 10000000000000000000000000000000000000000

# The rows that take two numbers, and their signs.
ROW_SIGNS = {"add": "+", "sub": "-", "mul": "*", "div": "/", "less": "<", "same": "="}


# To Python truths are whole numbers, too.
def is_whole(value):
    return isinstance(value, int) and not isinstance(value, bool)


def two_told(sign, a, b):
    if sign == "<":
        return ("value", a < b)
    if sign == "=":
        return ("value", a == b)
    if sign == "/":
        return quotient_told(a, b)
    return bounded(outcome(sign, a, b))


def quotient_told(a, b):
    if b == 0:
        return ("refused", "nought")
    return ("value", a // b)


def outcome(sign, a, b):
    if sign == "+":
        return a + b
    if sign == "-":
        return a - b
    return a * b


def bounded(number):
    if abs(number) > GREATEST:
        return ("refused", "great")
    return ("value", number)
