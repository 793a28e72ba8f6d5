"""Expressions, read word by word from a row, and the row itself as it is read."""

from grassnake.errors import BadText

MOST_DEEP = 12
MOST_PARTS = 60
MOST_BRACKETS = 12
MOST_VALUES = 4
END = ("end", "")
OPENING = ("mark", "(")
CLOSING = ("mark", ")")
COMMA = ("mark", ",")
DOT = ("mark", ".")
NOT = ("told", "not")
MINUS = ("mark", "-")
OR_SIGNS = (("told", "or"),)
AND_SIGNS = (("told", "and"),)
COMPARE_SIGNS = (("mark", "<"), ("mark", "<="), ("mark", ">"), ("mark", ">="), ("mark", "=="), ("mark", "!="))
SUM_SIGNS = (("mark", "+"), ("mark", "-"))
PRODUCT_SIGNS = (("mark", "*"), ("mark", "//"), ("mark", "&"), ("mark", "|"))
TOLD_VALUES = {"True": ("truth", True), "False": ("truth", False), "None": ("none",)}


class Row:
    def __init__(self, number, words):
        self.number = number
        self.words = list(words)
        self.place = 0
        self.brackets = 0

    def seen(self, further=0):
        place = self.place + further
        return self.words[place] if place < len(self.words) else END

    def taken(self):
        word = self.seen()
        self.place = self.place + 1
        return word

    def skips(self, word):
        if self.seen() != word:
            return False
        self.place = self.place + 1
        return True

    def wants(self, word):
        if not self.skips(word):
            raise BadText(self.number)

    def wants_name(self):
        word = self.taken()
        if word[0] != "name":
            raise BadText(self.number)
        return word[1]


# While it is read an expression is a tuple of its tree, how deep that is, and how many parts it has. The bounds are
# looked at as it grows: a row can be long enough for a tree that no walk by calls could come through.
def sized(row, tree, inner):
    deep = 1 + max([part[1] for part in inner], default=0)
    parts = 1 + sum([part[2] for part in inner])
    if deep > MOST_DEEP or parts > MOST_PARTS:
        raise BadText(row.number)
    return (tree, deep, parts)


def parted(row, inner):
    found = [inner(row)]
    while row.skips(COMMA):
        found.append(inner(row))
    return found


def in_brackets(row, inner):
    row.wants(OPENING)
    row.brackets = row.brackets + 1
    if row.brackets > MOST_BRACKETS:
        raise BadText(row.number)
    found = inner(row)
    row.wants(CLOSING)
    row.brackets = row.brackets - 1
    return found


def perhaps_parted(row):
    return [] if row.seen() == CLOSING else parted(row, read_or)


def values_in_brackets(row, most):
    found = in_brackets(row, perhaps_parted)
    if len(found) > most:
        raise BadText(row.number)
    return found


def read_single(row):
    word = row.seen()
    if word == OPENING:
        return in_brackets(row, read_or)
    row.taken()
    # These words are told just as their trees are.
    if word[0] in ("number", "text", "name"):
        return sized(row, word, [])
    if word[0] == "told" and word[1] in TOLD_VALUES:
        return sized(row, TOLD_VALUES[word[1]], [])
    raise BadText(row.number)


def read_call(row, left):
    found = values_in_brackets(row, MOST_VALUES)
    return sized(row, ("call", left[0], tuple([value[0] for value in found])), [left] + found)


def read_reach(row):
    left = read_single(row)
    while row.seen() in (DOT, OPENING):
        if row.skips(DOT):
            left = sized(row, ("field", left[0], row.wants_name()), [left])
        else:
            left = read_call(row, left)
    return left


# Side by side 12 of these words would be 13 deep, so the bound of depth refuses what the bound on them would.
def read_repeated(row, word, kind, inner):
    many = 0
    while row.skips(word):
        many = many + 1
    found = inner(row)
    for turn in range(many):
        found = sized(row, (kind, found[0]), [found])
    return found


def read_pair(row, kind, left, inner):
    sign = row.taken()[1]
    right = inner(row)
    return sized(row, (kind, sign, left[0], right[0]), [left, right])


def read_from_left(row, kind, signs, inner):
    left = inner(row)
    while row.seen() in signs:
        left = read_pair(row, kind, left, inner)
    return left


def read_minus(row):
    return read_repeated(row, MINUS, "minus", read_reach)


def read_product(row):
    return read_from_left(row, "two", PRODUCT_SIGNS, read_minus)


def read_sum(row):
    return read_from_left(row, "two", SUM_SIGNS, read_product)


# A second sign that compares is left where it stands, where nothing wants it: it is refused there.
def read_compare(row):
    left = read_sum(row)
    return read_pair(row, "two", left, read_sum) if row.seen() in COMPARE_SIGNS else left


def read_not(row):
    return read_repeated(row, NOT, "not", read_compare)


def read_and(row):
    return read_from_left(row, "both", AND_SIGNS, read_not)


def read_or(row):
    return read_from_left(row, "both", OR_SIGNS, read_and)


def read_expression(row):
    return read_or(row)[0]


def read_values(row, most):
    return tuple([value[0] for value in values_in_brackets(row, most)])
