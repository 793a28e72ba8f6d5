"""Signs: what comes of two values, of minus, and which values are wanting."""

MOST_NUMBER = 1000000000000000000000000000000
MOST_TEXT_SIGNS = 200


def number_answer(n):
    if n > MOST_NUMBER or n < -MOST_NUMBER:
        return ("fault", "GreatFault")
    return ("value", ("number", n))


def text_answer(t):
    if len(t) > MOST_TEXT_SIGNS:
        return ("fault", "GreatFault")
    return ("value", ("text", t))


def truth_answer(b):
    return ("value", ("truth", b))


# Of two numbers or two texts: Python orders texts sign by sign, by their places from the blank to "~", too.
def compared(sign, one, other):
    if sign == "<":
        return truth_answer(one < other)
    if sign == "<=":
        return truth_answer(one <= other)
    return truth_answer(one > other) if sign == ">" else truth_answer(one >= other)


def two_numbers(sign, one, other):
    if sign == "+":
        return number_answer(one + other)
    if sign == "-":
        return number_answer(one - other)
    if sign == "*":
        return number_answer(one * other)
    if sign == "//":
        return ("fault", "NoughtFault") if other == 0 else number_answer(one // other)
    if sign not in ("&", "|"):
        return compared(sign, one, other)
    if one < 0 or other < 0:
        return ("fault", "KindFault")
    return number_answer(one & other) if sign == "&" else number_answer(one | other)


def two_texts(sign, one, other):
    if sign == "+":
        return text_answer(one + other)
    return compared(sign, one, other) if sign in ("<", "<=", ">", ">=") else ("fault", "KindFault")


def two_truths(sign, one, other):
    if sign == "&":
        return truth_answer(one and other)
    return truth_answer(one or other) if sign == "|" else ("fault", "KindFault")


def two(sign, a, b):
    if sign == "==":
        return truth_answer(a == b)
    if sign == "!=":
        return truth_answer(a != b)
    if a[0] == b[0] and a[0] == "number":
        return two_numbers(sign, a[1], b[1])
    if a[0] == b[0] and a[0] == "text":
        return two_texts(sign, a[1], b[1])
    if a[0] == b[0] and a[0] == "truth":
        return two_truths(sign, a[1], b[1])
    return ("fault", "KindFault")


def minus(a):
    return number_answer(-a[1]) if a[0] == "number" else ("fault", "KindFault")


def is_wanting(a):
    return a in (("truth", False), ("none",), ("number", 0), ("text", ""))
