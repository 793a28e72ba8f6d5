"""Makes programs of all sorts, the same for the same seed, and changes them or tells their texts for the tests; and
values of each kind in a world."""
import random

from grassnake.orders import class_of, order_of
from grassnake.store import function, giver, known, new_count, new_method, new_object, new_view

NAMES = ("a", "b", "c", "x", "y", "go", "Snake_2", "abcdefghijkl")
TEXTS = ("", " ", "a", "# no", "(", "it's", "~" * 40, "x = 1:")
NUMBERS = (0, 1, 7, 10, 999999999999)
COMPARES = ("<", "<=", ">", ">=", "==", "!=")
SIGNS = COMPARES + ("+", "-", "*", "//", "&", "|")
SIMPLE = ("do", "set", "put", "more", "pass", "break", "continue", "return", "raise", "global", "nonlocal", "yield")
BLOCKS = ("def", "class", "if", "while", "for", "try")
# The given names; FAULTS are the classes right under Fault.
FUNCTIONS = ("say", "take", "isa", "elder", "count", "go", "throw", "shut")
FAULTS = ("NameFault", "KindFault", "NoughtFault", "GreatFault", "FieldFault", "OrderFault", "EndFault", "ShutFault",
          "DeepFault")
ALL_FAULTS = ("Fault", "UnboundFault") + FAULTS
GIVEN = FUNCTIONS + ("Thing",) + ALL_FAULTS


class Maker:
    def __init__(self, seed, names=NAMES, most=40, deepest=5):
        self.chance = random.Random(seed)
        self.names = names
        self.left = most
        self.deepest = deepest

    def one(self, things):
        return self.chance.choice(things)

    def name(self):
        return self.one(self.names)

    def some_names(self):
        return tuple(self.name() for _ in range(self.chance.randint(1, 3)))

    def single(self):
        kind = self.one(("name", "name", "name", "number", "text", "truth", "none"))
        if kind == "name":
            return ("name", self.name())
        if kind == "number":
            return ("number", self.one(NUMBERS))
        if kind == "text":
            return ("text", self.one(TEXTS))
        return ("truth", self.one((True, False))) if kind == "truth" else ("none",)

    def tree(self, deep=4):
        if deep <= 1 or self.chance.random() < 0.25:
            return self.single()
        kind = self.one(("both", "not", "two", "two", "minus", "call", "field"))
        if kind == "both":
            return (kind, self.one(("and", "or")), self.tree(deep - 1), self.tree(deep - 1))
        if kind == "two":
            return (kind, self.one(SIGNS), self.tree(deep - 1), self.tree(deep - 1))
        if kind in ("not", "minus"):
            return (kind, self.tree(deep - 1))
        if kind == "field":
            return (kind, self.tree(deep - 1), self.name())
        return (kind, self.tree(deep - 1), self.trees(4, deep - 1))

    def trees(self, most, deep=3):
        return tuple(self.tree(deep) for _ in range(self.chance.randint(0, most)))

    def perhaps(self, make):
        return make() if self.chance.random() < 0.5 else None

    def small(self):
        return self.tree(self.chance.randint(1, 3))

    def params(self):
        many = self.chance.randint(0, min(4, len(self.names)))
        plain = self.chance.randint(0, many)
        names = self.chance.sample(self.names, many)
        return tuple((name, None if k < plain else self.small()) for k, name in enumerate(names))

    def simple(self):
        kind = self.one(SIMPLE + ("do", "set", "set", "more"))
        if kind in ("do", "return"):
            return (kind, self.small() if kind == "do" else self.perhaps(self.small))
        if kind == "set":
            return (kind, self.name(), self.small())
        if kind == "put":
            return (kind, self.small(), self.name(), self.small())
        if kind == "more":
            return (kind, self.name(), self.one("+-*"), self.small())
        if kind == "raise":
            tree = self.perhaps(self.small)
            return (kind, tree, None if tree is None else self.perhaps(self.small))
        if kind in ("global", "nonlocal"):
            return (kind, self.some_names())
        if kind == "yield":
            return (kind, self.perhaps(self.name), self.small())
        return (kind,)

    def statement(self, deep):
        self.left -= 1
        if deep >= self.deepest or self.left < 4 or self.chance.random() < 0.55:
            return self.simple()
        kind = self.one(BLOCKS)
        if kind == "def":
            return (kind, self.name(), self.params(), self.block(deep + 1))
        if kind == "class":
            return (kind, self.name(), self.trees(3, 2), self.block(deep + 1))
        if kind in ("if", "while"):
            return (kind, self.small(), self.block(deep + 1), self.second(deep + 1))
        if kind == "for":
            return (kind, self.name(), self.small(), self.block(deep + 1), self.second(deep + 1))
        return self.trying(deep + 1)

    def trying(self, deep):
        first = self.block(deep)
        catches = [(self.small(), self.perhaps(self.name), self.block(deep))
                   for _ in range(self.chance.randint(0, 2))]
        if self.chance.random() < 0.3:
            catches.append((None, None, self.block(deep)))
        otherwise = self.second(deep) if catches else ()
        last = self.block(deep) if not catches or self.chance.random() < 0.4 else None
        return ("try", first, tuple(catches), otherwise, last)

    def second(self, deep):
        return self.block(deep) if self.chance.random() < 0.5 else ()

    def block(self, deep=0):
        return tuple(self.statement(deep) for _ in range(self.chance.randint(1, 3)))

    def program(self):
        found = []
        while self.left > 0:
            found.append(self.statement(0))
        return tuple(found)


def bracketed(tree):
    """An expression with brackets round each part."""
    kind = tree[0]
    if kind in ("both", "two"):
        return f"({bracketed(tree[2])}){tree[1]}({bracketed(tree[3])})"
    if kind in ("not", "minus"):
        return f"{'not' if kind == 'not' else '-'}({bracketed(tree[1])})"
    if kind == "field":
        return f"({bracketed(tree[1])}).{tree[2]}"
    if kind == "call":
        return f"({bracketed(tree[1])})({','.join(f'({bracketed(value)})' for value in tree[2])})"
    if kind == "text":
        return f'"{tree[1]}"'
    return "None" if kind == "none" else str(tree[1])


def without(program, way):
    """The program with pass in the place of the statement to which the way leads."""
    statement = ("pass",) if len(way) == 1 else changed_within(program[way[0]], way[1], way[2:])
    return program[:way[0]] + (statement,) + program[way[0] + 1:]


def changed_within(statement, number, way):
    if statement[0] == "try":
        blocks = [statement[1]] + [catch[2] for catch in statement[2]] + list(statement[3:])
        blocks[number] = without(blocks[number], way)
        catches = tuple(catch[:2] + (block,) for catch, block in zip(statement[2], blocks[1:]))
        return ("try", blocks[0], catches) + tuple(blocks[-2:])
    place = {"def": 3, "class": 3, "if": 2, "while": 2, "for": 3}[statement[0]] + number
    return statement[:place] + (without(statement[place], way),) + statement[place + 1:]


def class_under(world, name, elders=(), fields=None):
    """A class with these elders, names of given classes or classes themselves."""
    values = tuple(known(world, elder) if isinstance(elder, str) else elder for elder in elders)
    answer = order_of(world, values)
    if answer[0] != "value":
        raise AssertionError(answer)
    return class_of(world, name, answer[1], fields or {})


def plain_function(world, name):
    return function(world, name, 1, (), "code", "around", False)


def each_kind(world):
    """One value of each kind and sort, by a word for it."""
    snake, bite = class_under(world, "Snake"), class_under(world, "Bite", ("NameFault",))
    grass, fang = new_object(world, snake), new_object(world, bite)
    def_function = plain_function(world, "f")
    return {
        "number": ("number", 7), "nought": ("number", 0), "below": ("number", -7), "text": ("text", "adder"),
        "empty": ("text", ""), "true": ("truth", True), "false": ("truth", False), "none": ("none",),
        "function": def_function, "giving function": function(world, "g", 0, (), (), (), True),
        "given function": known(world, "say"), "method": new_method(world, def_function, grass),
        "class": snake, "fault class": bite, "Thing": known(world, "Thing"), "Fault": known(world, "Fault"),
        "EndFault": known(world, "EndFault"), "object": grass, "fault": fang,
        "given fault": new_object(world, known(world, "EndFault")), "giver": giver(world, "g", "frame"),
        "count": new_count(world, 3), "view": new_view(world, snake, grass),
        "fault view": new_view(world, bite, fang),
    }
