"""Places a program's names: each is told by the slot, the program's name or the house's field that it means."""

from grassnake.scopes import blocks_of, has_yield, meaning, program_scope, scope_within


def read_place(name, scope):
    other = meaning(scope.defs, name)
    return ("house", name, other) if scope.kind == "house" and name in scope.owned else other


def bound_place(name, scope):
    if name is None:
        return None
    return ("house", name) if scope.kind == "house" else meaning(scope.defs, name)


def placed_tree(tree, scope):
    if tree is None:
        return None
    kind = tree[0]
    if kind == "name":
        return read_place(tree[1], scope)
    if kind in ("both", "two"):
        return (kind, tree[1], placed_tree(tree[2], scope), placed_tree(tree[3], scope))
    if kind in ("not", "minus"):
        return (kind, placed_tree(tree[1], scope))
    if kind == "call":
        return (kind, placed_tree(tree[1], scope), placed_trees(tree[2], scope))
    return (kind, placed_tree(tree[1], scope), tree[2]) if kind == "field" else tree


def placed_trees(trees, scope):
    return tuple([placed_tree(tree, scope) for tree in trees])


def placed_row(statement, scope):
    kind = statement[0]
    if kind in ("global", "nonlocal"):
        return ("pass",)
    if kind in ("do", "return"):
        return (kind, placed_tree(statement[1], scope))
    if kind == "raise":
        return (kind, placed_tree(statement[1], scope), placed_tree(statement[2], scope))
    if kind in ("set", "yield"):
        return (kind, bound_place(statement[1], scope), placed_tree(statement[2], scope))
    if kind == "put":
        return (kind, placed_tree(statement[1], scope), statement[2], placed_tree(statement[3], scope))
    if kind == "more":
        name = statement[1]
        value = placed_tree(statement[3], scope)
        return (kind, read_place(name, scope), bound_place(name, scope), statement[2], value)
    return statement


def placed_def(statement, scope, inner):
    name = statement[1]
    params = statement[2]
    defaults = placed_trees([param[1] for param in params if param[1] is not None], scope)
    gives = has_yield(statement[3])
    return ("def", bound_place(name, scope), name, defaults, len(params), len(inner.owned), gives)


# What a statement with blocks has ahead of these; of a try its catches, less their blocks.
def placed_head(statement, scope, inner):
    kind = statement[0]
    if kind == "def":
        return placed_def(statement, scope, inner)
    if kind == "class":
        return (kind, bound_place(statement[1], scope), statement[1], placed_trees(statement[2], scope))
    if kind in ("if", "while"):
        return (kind, placed_tree(statement[1], scope))
    if kind == "for":
        return (kind, bound_place(statement[1], scope), placed_tree(statement[2], scope))
    catches = [(placed_tree(catch[0], scope), bound_place(catch[1], scope)) for catch in statement[2]]
    return (kind, tuple(catches))


def filled(head, blocks):
    if head[0] != "try":
        return head + tuple(blocks)
    heads = head[1]
    catches = [catch + (block,) for catch, block in zip(heads, blocks[1:])]
    behind = blocks[len(heads) + 1:]
    return ("try", blocks[0], tuple(catches), behind[0], behind[1] if len(behind) == 2 else None)


# Programs can be deeper than calls may go, so what is to be done waits in a list, the next one last, and what is
# done, statements and blocks, stands in another until that which they belong to takes them off its end.
class Placer:
    def __init__(self):
        self.waiting = []
        self.done = []

    def taken_off(self, many):
        found = [self.done.pop() for turn in range(many)]
        return list(reversed(found))

    def wait_for_block(self, block, scope):
        self.waiting.append(("block", len(block)))
        for statement in reversed(block):
            self.waiting.append(("statement", statement, scope))

    def wait_for_statement(self, statement, scope):
        blocks = blocks_of(statement)
        if blocks == []:
            self.done.append(placed_row(statement, scope))
            return
        inner = scope_within(statement, scope)
        self.waiting.append(("fill", placed_head(statement, scope, inner), len(blocks)))
        for number, head, block in reversed(blocks):
            self.waiting.append(("begin", block, inner))

    def go_on(self):
        turn = self.waiting.pop()
        if turn[0] == "begin":
            self.wait_for_block(turn[1], turn[2])
        elif turn[0] == "statement":
            self.wait_for_statement(turn[1], turn[2])
        elif turn[0] == "block":
            self.done.append(tuple(self.taken_off(turn[1])))
        else:
            self.done.append(filled(turn[1], self.taken_off(turn[2])))


def placed(program):
    placer = Placer()
    placer.wait_for_block(program, program_scope(program))
    while placer.waiting != []:
        placer.go_on()
    return placer.done[0]
