"""Reads a text to a program, row by row: each row is a statement, or a further clause of one."""

from grassnake.errors import BadText
from grassnake.expressions import CLOSING, END, OPENING, Row, parted, read_expression, read_values
from grassnake.words import rows_of

MOST_SIGNS = 4000
MOST_ROWS = 200
MOST_STATEMENTS = 150
MOST_ELIFS = 8
MOST_PARAMS = 4
MOST_ELDERS = 3
COLON = ("mark", ":")
EQUALS = ("mark", "=")
SETTING_MARKS = (("mark", "="), ("mark", "+="), ("mark", "-="), ("mark", "*="))
AS = ("told", "as")
FROM = ("told", "from")
IN = ("told", "in")
YIELD = ("told", "yield")
OPENERS = ("def", "class", "if", "while", "for", "try")
CLAUSES = ("elif", "else", "except", "finally")


def read_name(row):
    return row.wants_name()


def read_param(row):
    name = row.wants_name()
    return (name, read_expression(row) if row.skips(EQUALS) else None)


# A def's own brackets aren't among those that are counted.
def read_params(row):
    row.wants(OPENING)
    params = [] if row.seen() == CLOSING else parted(row, read_param)
    row.wants(CLOSING)
    valued = [param[1] is not None for param in params]
    if len(params) > MOST_PARAMS or valued != sorted(valued):
        raise BadText(row.number)
    return tuple(params)


def read_catch(row):
    if row.seen() == COLON:
        return (None, None)
    tree = read_expression(row)
    return (tree, row.wants_name() if row.skips(AS) else None)


def read_for(row):
    name = row.wants_name()
    row.wants(IN)
    return (name, read_expression(row))


# What a clause has between its word and the colon, as it stands in the tree.
def read_head(row, word):
    if word in ("if", "elif", "while"):
        return (read_expression(row),)
    if word == "for":
        return read_for(row)
    if word == "def":
        name = row.wants_name()
        return (name, read_params(row))
    if word == "class":
        name = row.wants_name()
        return (name, read_values(row, MOST_ELDERS) if row.seen() == OPENING else ())
    if word == "except":
        return read_catch(row)
    return ()


def read_raise(row):
    if row.seen() == END:
        return ("raise", None, None)
    tree = read_expression(row)
    return ("raise", tree, read_expression(row) if row.skips(FROM) else None)


def read_told(row, word):
    if word == "return":
        return ("return", None if row.seen() == END else read_expression(row))
    if word == "raise":
        return read_raise(row)
    if word in ("global", "nonlocal"):
        return (word, tuple(parted(row, read_name)))
    if word == "yield":
        return ("yield", None, read_expression(row))
    return (word,)


def read_binding(row):
    name = row.wants_name()
    mark = row.taken()[1]
    if mark != "=":
        return ("more", name, mark[0], read_expression(row))
    if row.skips(YIELD):
        return ("yield", name, read_expression(row))
    return ("set", name, read_expression(row))


def read_doing(row):
    tree = read_expression(row)
    ends_with_bracket = row.seen(-1) == CLOSING
    if not row.skips(EQUALS):
        return ("do", tree)
    # A field that ends with a bracket stands in brackets as a whole.
    if tree[0] != "field" or ends_with_bracket:
        raise BadText(row.number)
    return ("put", tree[1], tree[2], read_expression(row))


def read_single_row(row):
    word = row.seen()
    if word[0] == "told" and word[1] in ("pass", "break", "continue", "return", "raise", "global", "nonlocal", "yield"):
        row.taken()
        return read_told(row, word[1])
    if word[0] == "name" and row.seen(1) in SETTING_MARKS:
        return read_binding(row)
    return read_doing(row)


# Clauses are a list of tuples of word, head and the statements of the block: an if's with its elifs and else, and
# so on. No clauses are there ahead of the first statement that may have some.
def may_follow(clauses, word):
    if clauses == []:
        return False
    last = clauses[-1]
    if word == "elif":
        return last[0] in ("if", "elif") and len(clauses) <= MOST_ELIFS
    if word == "else":
        return last[0] in ("if", "elif", "while", "for", "except")
    if word == "except":
        return last[0] == "try" or (last[0] == "except" and last[1][0] is not None)
    return last[0] in ("try", "except") or (last[0] == "else" and clauses[0][0] == "try")


def block_of(clauses, word):
    found = [tuple(clause[2]) for clause in clauses if clause[0] == word]
    return found[0] if found != [] else None


def tree_of_try(clauses):
    catches = [clause[1] + (tuple(clause[2]),) for clause in clauses if clause[0] == "except"]
    otherwise = block_of(clauses, "else")
    return (
        "try", block_of(clauses, "try"), tuple(catches), () if otherwise is None else otherwise,
        block_of(clauses, "finally"),
    )


def tree_of(clauses):
    word = clauses[0][0]
    if word == "try":
        return tree_of_try(clauses)
    if word in ("def", "class"):
        return (word,) + clauses[0][1] + (tuple(clauses[0][2]),)
    second = ()
    for clause in reversed(clauses):
        if clause[0] == "else":
            second = tuple(clause[2])
        else:
            second = ((word,) + clause[1] + (tuple(clause[2]), second),)
    return second[0]


# A block that may still grow: its statements, and the clauses so far of the one behind them, which isn't over.
class Level:
    def __init__(self):
        self.statements = []
        self.clauses = []

    def is_empty(self):
        return self.statements == [] and self.clauses == []

    def settle(self, number):
        if self.clauses == []:
            return
        if self.clauses[-1][0] == "try":
            raise BadText(number)
        self.statements.append(tree_of(self.clauses))
        self.clauses = []


class Reader:
    def __init__(self):
        self.levels = [Level()]
        self.many = 0

    def close(self, indent, number):
        deepest = len(self.levels) - 1
        awaits_block = deepest > 0 and self.levels[-1].is_empty()
        if indent > deepest or (awaits_block and indent < deepest):
            raise BadText(number)
        while len(self.levels) - 1 > indent:
            self.levels.pop().settle(number)

    def add_statement(self, number):
        self.many = self.many + 1
        if self.many > MOST_STATEMENTS:
            raise BadText(number)

    def begin_block(self, row):
        word = row.taken()[1]
        head = read_head(row, word)
        row.wants(COLON)
        inner = Level()
        self.levels[-1].clauses.append((word, head, inner.statements))
        self.levels.append(inner)

    def take_clause(self, row):
        word = row.seen()[1]
        if not may_follow(self.levels[-1].clauses, word):
            raise BadText(row.number)
        if word == "elif":
            self.add_statement(row.number)
        self.begin_block(row)

    def take_statement(self, row):
        self.levels[-1].settle(row.number)
        self.add_statement(row.number)
        word = row.seen()
        if word[0] == "told" and word[1] in OPENERS:
            self.begin_block(row)
        else:
            self.levels[-1].statements.append(read_single_row(row))

    def take_row(self, number, indent, words):
        if indent is None or words is None:
            raise BadText(number)
        self.close(indent, number)
        row = Row(number, words)
        word = row.seen()
        if word[0] == "told" and word[1] in CLAUSES:
            self.take_clause(row)
        else:
            self.take_statement(row)
        row.wants(END)

    def finished(self, number):
        self.close(0, number)
        self.levels[0].settle(number)
        return tuple(self.levels[0].statements)


def read(text):
    if not isinstance(text, str) or "\t" in text or len(text) > MOST_SIGNS:
        raise BadText(None)
    many_rows = text.count("\n") + 1
    if many_rows > MOST_ROWS:
        raise BadText(None)
    reader = Reader()
    for number, indent, words in rows_of(text):
        reader.take_row(number, indent, words)
    return reader.finished(many_rows)
