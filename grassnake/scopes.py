"""Scopes: which names are a def's own, what a name means, and which statements can't stand where they do."""

from grassnake.errors import BadName


# A statement's blocks in the text's order: tuples of number, head and block. A head is there of catches alone, in the
# form of a statement, as its names stand in the text between two blocks.
def blocks_of(statement):
    kind = statement[0]
    if kind in ("def", "class"):
        return [(0, None, statement[3])]
    if kind in ("if", "while"):
        return [(0, None, statement[2]), (1, None, statement[3])]
    if kind == "for":
        return [(0, None, statement[3]), (1, None, statement[4])]
    return blocks_of_try(statement) if kind == "try" else []


def blocks_of_try(statement):
    blocks = [(0, None, statement[1])]
    for number, catch in enumerate(statement[2], start=1):
        blocks.append((number, ("except", catch[0], catch[1]), catch[2]))
    behind = len(statement[2]) + 1
    blocks.append((behind, None, statement[3]))
    if statement[4] is not None:
        blocks.append((behind + 1, None, statement[4]))
    return blocks


# The statements of a scope in the text's order, and the heads of its catches; what waits is kept in a list, the next
# one last, as ifs in elses can be deeper than calls may go.
def rows_of_scope(block):
    rows = []
    waiting = list(reversed(block))
    while waiting != []:
        statement = waiting.pop()
        rows.append(statement)
        if statement[0] not in ("def", "class"):
            waiting.extend(list(reversed(inner_rows(statement))))
    return rows


def inner_rows(statement):
    rows = []
    for number, head, block in blocks_of(statement):
        if head is not None:
            rows.append(head)
        rows.extend(block)
    return rows


def bound_name(row):
    if row[0] in ("set", "more", "def", "class", "for", "yield"):
        return row[1]
    return row[2] if row[0] == "except" else None


def told_names(rows, word):
    names = []
    for row in rows:
        if row[0] == word:
            names.extend(row[1])
    return names


# A param that is told nonlocal stays: what is wrong with it is told of that statement, not of defs within that
# mean this name.
def own_names(params, block):
    rows = rows_of_scope(block)
    far = told_names(rows, "global")
    names = [param[0] for param in params if param[0] not in far]
    left_out = far + told_names(rows, "nonlocal")
    for row in rows:
        name = bound_name(row)
        if name is not None and name not in names and name not in left_out:
            names.append(name)
    return tuple(names)


def has_yield(block):
    return any([row[0] == "yield" for row in rows_of_scope(block)])


# The program, a def or a house. Its defs are those in which a name is looked for, a def itself first.
class Scope:
    def __init__(self, kind, params, block, defs):
        self.kind = kind
        self.owned = dict([(name, place) for place, name in enumerate(own_names(params, block))])
        self.told_global = told_names(rows_of_scope(block), "global")
        self.defs = (self,) + defs if kind == "def" else defs
        # The names that can't be told global or nonlocal any more: params, and what the text had so far.
        self.stood = dict([(param[0], True) for param in params])

    def note(self, names):
        for name in names:
            self.stood[name] = True


def program_scope(program):
    return Scope("program", (), program, ())


def scope_within(statement, scope):
    if statement[0] == "def":
        return Scope("def", statement[2], statement[3], scope.defs)
    if statement[0] == "class":
        return Scope("house", (), statement[3], scope.defs)
    return scope


def meaning(defs, name):
    for out, scope in enumerate(defs):
        if name in scope.told_global:
            return ("program", name)
        if name in scope.owned:
            return ("slot", out, scope.owned[name])
    return ("program", name)


def trees_in(tree):
    if tree[0] in ("both", "two"):
        return tree[2:]
    if tree[0] == "call":
        return (tree[1],) + tree[2]
    return (tree[1],) if tree[0] in ("not", "minus", "field") else ()


def names_in(trees):
    names = []
    waiting = list(trees)
    while waiting != []:
        tree = waiting.pop()
        if tree[0] == "name":
            names.append(tree[1])
        waiting.extend(trees_in(tree))
    return names


# The expressions that stand in a row itself, so not those in its blocks.
def trees_of_row(row):
    kind = row[0]
    if kind == "def":
        found = [param[1] for param in row[2]]
    elif kind == "class":
        found = list(row[2])
    elif kind == "put":
        found = [row[1], row[3]]
    elif kind == "raise":
        found = [row[1], row[2]]
    elif kind in ("do", "return", "if", "while", "except"):
        found = [row[1]]
    elif kind in ("set", "for", "yield"):
        found = [row[2]]
    else:
        found = [row[3]] if kind == "more" else []
    return [tree for tree in found if tree is not None]


def names_of_row(row):
    if row[0] in ("global", "nonlocal"):
        return list(row[1])
    name = bound_name(row)
    return names_in(trees_of_row(row)) + ([] if name is None else [name])


# Where a row stands: its scope, the way to it, whether a loop can be left there, and whether in a catch's block.
class Spot:
    def __init__(self, scope, way, in_loop, in_catch):
        self.scope = scope
        self.way = way
        self.in_loop = in_loop
        self.in_catch = in_catch


def spot_of_block(statement, number, spot):
    scope = scope_within(statement, spot.scope)
    kind = statement[0]
    in_loop = spot.in_loop
    in_catch = spot.in_catch
    if kind in ("def", "class"):
        in_loop = False
        in_catch = False
    elif kind in ("while", "for"):
        in_loop = in_loop or number == 0
    elif kind == "try":
        catches = len(statement[2])
        in_loop = in_loop and number != catches + 2
        in_catch = in_catch or (number >= 1 and number <= catches)
    return Spot(scope, spot.way + (number,), in_loop, in_catch)


def rows_of_block(block, spot):
    rows = []
    for place, statement in enumerate(block):
        rows.append((statement, Spot(spot.scope, spot.way + (place,), spot.in_loop, spot.in_catch)))
    return rows


def rows_within(statement, spot):
    rows = []
    for number, head, block in blocks_of(statement):
        inner = spot_of_block(statement, number, spot)
        if head is not None:
            rows.append((head, inner))
        rows.extend(rows_of_block(block, inner))
    return rows


def is_told_wrong(word, names, scope):
    if scope.kind != "def":
        return True
    for place, name in enumerate(names):
        if name in scope.stood or name in names[:place]:
            return True
        if word == "nonlocal" and meaning(scope.defs[1:], name)[0] != "slot":
            return True
    return False


def is_wrong(row, spot):
    kind = row[0]
    if kind in ("return", "yield"):
        return spot.scope.kind != "def"
    if kind in ("break", "continue"):
        return not spot.in_loop
    if kind == "raise":
        return row[1] is None and not spot.in_catch
    if kind in ("global", "nonlocal"):
        return is_told_wrong(kind, row[1], spot.scope)
    if kind == "def":
        names = [param[0] for param in row[2]]
        return any([names.count(name) > 1 for name in names])
    return False


def looked(program):
    waiting = list(reversed(rows_of_block(program, Spot(program_scope(program), (), False, False))))
    while waiting != []:
        turn = waiting.pop()
        row = turn[0]
        spot = turn[1]
        if is_wrong(row, spot):
            raise BadName(spot.way)
        spot.scope.note(names_of_row(row))
        waiting.extend(list(reversed(rows_within(row, spot))))
