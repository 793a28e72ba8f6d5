"""Shows a program as a text that is read as this program."""

BLANKS = "    "
MOST_ELIFS = 8
# How closely each sort of tree binds; a tree stands in brackets where more is wanted than it has.
SIGN_LEVELS = {
    "or": 1, "and": 2, "<": 4, "<=": 4, ">": 4, ">=": 4, "==": 4, "!=": 4, "+": 5, "-": 5, "*": 6, "//": 6, "&": 6,
    "|": 6,
}
NOT_LEVEL = 3
COMPARE_LEVEL = 4
MINUS_LEVEL = 7
REACH_LEVEL = 8


def level_of(tree):
    if tree[0] in ("both", "two"):
        return SIGN_LEVELS[tree[1]]
    if tree[0] == "not":
        return NOT_LEVEL
    return MINUS_LEVEL if tree[0] == "minus" else REACH_LEVEL


def shown_pair(tree):
    level = level_of(tree)
    # Signs that compare don't stand side by side, all others go from the left.
    left = shown_tree(tree[2], level + 1 if level == COMPARE_LEVEL else level)
    sign = tree[1]
    right = shown_tree(tree[3], level + 1)
    return f"{left} {sign} {right}"


def shown_field(thing, name):
    left = shown_tree(thing, REACH_LEVEL)
    return f"{left}.{name}"


def shown_call(tree):
    left = shown_tree(tree[1], REACH_LEVEL)
    inner = shown_trees(tree[2])
    return f"{left}({inner})"


def shown_bare(tree):
    kind = tree[0]
    if kind in ("both", "two"):
        return shown_pair(tree)
    if kind == "not":
        return "not " + shown_tree(tree[1], NOT_LEVEL)
    if kind == "minus":
        return "-" + shown_tree(tree[1], MINUS_LEVEL)
    if kind == "call":
        return shown_call(tree)
    if kind == "field":
        return shown_field(tree[1], tree[2])
    if kind == "text":
        return '"' + tree[1] + '"'
    return "None" if kind == "none" else str(tree[1])


def shown_tree(tree, wanted=0):
    bare = shown_bare(tree)
    return f"({bare})" if level_of(tree) < wanted else bare


def shown_trees(trees):
    return ", ".join([shown_tree(tree) for tree in trees])


def shown_behind(word, tree):
    return "" if tree is None else word + shown_tree(tree)


def shown_row(statement):
    kind = statement[0]
    if kind == "do":
        return shown_tree(statement[1])
    if kind == "set":
        return statement[1] + " = " + shown_tree(statement[2])
    if kind == "put":
        return shown_field(statement[1], statement[2]) + " = " + shown_tree(statement[3])
    if kind == "more":
        return statement[1] + " " + statement[2] + "= " + shown_tree(statement[3])
    if kind == "return":
        return "return" + shown_behind(" ", statement[1])
    if kind == "raise":
        return "raise" + shown_behind(" ", statement[1]) + shown_behind(" from ", statement[2])
    if kind in ("global", "nonlocal"):
        return kind + " " + ", ".join(statement[1])
    if kind == "yield":
        target = "" if statement[1] is None else statement[1] + " = "
        return target + "yield " + shown_tree(statement[2])
    return kind


# A statement's pieces: a text for each row of its own, and in between the blocks, each a tuple.
def else_pieces(block):
    return [] if block == () else ["else:", block]


def pieces_of_def(statement):
    params = ", ".join([param[0] + shown_behind("=", param[1]) for param in statement[2]])
    return ["def " + statement[1] + "(" + params + "):", statement[3]]


def pieces_of_class(statement):
    elders = "" if statement[2] == () else "(" + shown_trees(statement[2]) + ")"
    return ["class " + statement[1] + elders + ":", statement[3]]


def is_lone_if(block):
    return len(block) == 1 and block[0][0] == "if"


def pieces_of_if(statement):
    pieces = ["if " + shown_tree(statement[1]) + ":", statement[2]]
    second = statement[3]
    elifs = 0
    while elifs < MOST_ELIFS and is_lone_if(second):
        pieces.extend(["elif " + shown_tree(second[0][1]) + ":", second[0][2]])
        second = second[0][3]
        elifs = elifs + 1
    return pieces + else_pieces(second)


def pieces_of_try(statement):
    pieces = ["try:", statement[1]]
    for tree, name, block in statement[2]:
        target = "" if name is None else " as " + name
        pieces.extend(["except" + shown_behind(" ", tree) + target + ":", block])
    pieces.extend(else_pieces(statement[3]))
    return pieces if statement[4] is None else pieces + ["finally:", statement[4]]


def pieces_of(statement):
    kind = statement[0]
    if kind == "def":
        return pieces_of_def(statement)
    if kind == "class":
        return pieces_of_class(statement)
    if kind == "if":
        return pieces_of_if(statement)
    if kind == "while":
        return ["while " + shown_tree(statement[1]) + ":", statement[2]] + else_pieces(statement[3])
    if kind == "for":
        head = "for " + statement[1] + " in " + shown_tree(statement[2]) + ":"
        return [head, statement[3]] + else_pieces(statement[4])
    if kind == "try":
        return pieces_of_try(statement)
    return [shown_row(statement)]


def pieces_of_block(block):
    pieces = []
    for statement in block:
        pieces.extend(pieces_of(statement))
    return pieces


# Blocks wait in a list, the next one last, and not in calls: a long row of ifs, each in the else of the one ahead,
# is deeper than calls may go.
def shown(program):
    rows = []
    waiting = [("", program)]
    while waiting != []:
        turn = waiting.pop()
        indent = turn[0]
        if isinstance(turn[1], str):
            rows.append(indent + turn[1])
        else:
            for piece in reversed(pieces_of_block(turn[1])):
                waiting.append((indent if isinstance(piece, str) else indent + BLANKS, piece))
    return "\n".join(rows)
