"""Showing: blanks, brackets, elifs, and that what is shown is read as the same program."""
import unittest

from grassnake.errors import BadText
from grassnake.reading import read
from grassnake.showing import shown
from making import COMPARES, SIGNS, Maker

A, B, C, X = (("name", name) for name in "abcx")
ONE = ("number", 1)
PASS = (("pass",),)


def chain(many, last=()):
    """An if, and many more, each alone in the else of the one ahead."""
    second = last
    for number in range(many, -1, -1):
        second = (("if", ("number", number), PASS, second),)
    return second


def shown_chain(first, last, indent):
    """The rows of ifs by the numbers from first to last, eight elifs at most side by side."""
    rows = []
    for number in range(first, last + 1):
        place = (number - first) % 9
        if number > first and place == 0:
            rows.append(indent + "else:")
            indent += "    "
        rows += [f"{indent}{'elif' if place else 'if'} {number}:", indent + "    pass"]
    return rows


class Shows(unittest.TestCase):
    def told(self, program, text):
        for _ in range(2):
            answer = shown(program)
            self.assertEqual(answer, text)
            self.assertIs(type(answer), str)

    def same(self, text):
        """A text that is shown just as it is written."""
        self.told(read(text), text)

    def tree(self, tree, text):
        self.told((("do", tree),), text)
        self.assertEqual(read(text), (("do", tree),))


class Blanks(Shows):
    def test_no_statements(self):
        self.told((), "")

    def test_no_line_end_behind_the_last_row(self):
        self.told((("do", A),), "a")
        self.told((("do", A), ("do", B)), "a\nb")
        self.told((("while", A, PASS, ()),), "while a:\n    pass")

    def test_single_things(self):
        for tree, text in ((ONE, "1"), (("number", 0), "0"), (("text", ""), '""'), (("text", "a  # b"), '"a  # b"'),
                           (("truth", True), "True"), (("truth", False), "False"), (("none",), "None"), (A, "a")):
            self.tree(tree, text)

    def test_between_words(self):
        for sign in SIGNS:
            self.tree(("two", sign, A, B), f"a {sign} b")
        for word in ("and", "or"):
            self.tree(("both", word, A, B), f"a {word} b")
        self.tree(("not", A), "not a")
        self.told(read("x=1"), "x = 1")
        self.told(read("a . x=1"), "a.x = 1")
        for sign in "+-*":
            self.told(read(f"x{sign}=1"), f"x {sign}= 1")

    def test_behind_and_ahead_of_brackets(self):
        self.tree(("two", "*", ("two", "+", A, B), C), "(a + b) * c")
        self.told(read("a*( b+c )"), "a * (b + c)")
        self.told(read("f( )"), "f()")
        self.told(read("f( a )"), "f(a)")

    def test_commas(self):
        self.told(read("f(a ,b,c)"), "f(a, b, c)")
        self.told(read("global a ,b,c"), "global a, b, c")
        self.told(read("nonlocal a,b"), "nonlocal a, b")
        self.told(read("def f(a ,b=1 ,c=2) :\n    pass"), "def f(a, b=1, c=2):\n    pass")
        self.told(read("class C(a ,b) :\n    pass"), "class C(a, b):\n    pass")

    def test_colons(self):
        for head in ("if a", "while a", "for x in a", "def f()", "class C"):
            self.told(read(f"{head} :\n    pass"), f"{head}:\n    pass")
        self.told(read("try :\n    a\nexcept :\n    b\nelse :\n    c\nfinally :\n    a"),
                  "try:\n    a\nexcept:\n    b\nelse:\n    c\nfinally:\n    a")

    def test_dots(self):
        self.told(read("a . b . c ( x ) . a"), "a.b.c(x).a")
        self.told(read("1 . x"), "1.x")
        self.told(read("( a+b ) . c"), "(a + b).c")

    def test_ahead_of_a_calls_bracket(self):
        self.told(read("f (a) (b)"), "f(a)(b)")
        self.told(read("( a+b ) (c)"), "(a + b)(c)")
        self.told(read("def f (a):\n    pass"), "def f(a):\n    pass")
        self.told(read("class C (a):\n    pass"), "class C(a):\n    pass")

    def test_ahead_of_other_brackets(self):
        self.tree(("not", ("both", "or", A, B)), "not (a or b)")
        self.tree(("two", "*", A, ("two", "+", B, C)), "a * (b + c)")
        self.tree(("both", "and", A, ("both", "or", B, C)), "a and (b or c)")

    def test_behind_a_minus(self):
        self.tree(("minus", A), "-a")
        self.tree(("minus", ("minus", A)), "--a")
        self.tree(("minus", ("two", "+", A, B)), "-(a + b)")
        self.tree(("two", "-", A, B), "a - b")
        self.tree(("two", "-", A, ("minus", B)), "a - -b")
        self.tree(("not", ("minus", A)), "not -a")
        self.told(read("x=- 1"), "x = -1")
        self.told(read("f(- 1, - a)"), "f(-1, -a)")

    def test_around_a_params_sign(self):
        self.told(read("def f(a = 1, b = - 2):\n    pass"), "def f(a=1, b=-2):\n    pass")
        self.told(read("def f(a = b == c):\n    pass"), "def f(a=b == c):\n    pass")

    def test_each_statement(self):
        for text in ("a", "x = 1", "a.x = 1", "a.b(c).x = a or b", "x += 1", "x -= a", "x *= -1", "pass", "break",
                     "continue", "return", "return a", "return a or b", "raise", "raise a", "raise a from b",
                     "raise a() from None", "global a", "global a, b", "nonlocal a, b, c", "yield a", "x = yield a",
                     "def f():\n    pass", "def f(a, b=1):\n    a\n    b", "class C:\n    pass",
                     "class C(a, b, c):\n    pass", "if a:\n    b", "if a:\n    b\nelse:\n    c",
                     "while a:\n    b", "while a:\n    b\nelse:\n    c", "for x in a:\n    b",
                     "for x in a or b:\n    b\nelse:\n    c", "try:\n    a\nexcept:\n    b",
                     "try:\n    a\nexcept b:\n    c\nexcept a.b as x:\n    c\nexcept:\n    a\nelse:\n    b\n"
                     "finally:\n    c",
                     "try:\n    a\nfinally:\n    b", "try:\n    a\nexcept a or b as x:\n    b\nelse:\n    c"):
            self.same(text)

    def test_four_blanks_for_each_block(self):
        rows = [" " * 4 * k + "while a:" for k in range(12)] + [" " * 48 + "pass", " " * 8 + "a", "b"]
        self.same("\n".join(rows))

    def test_a_class_without_elders(self):
        self.told((("class", "C", (), PASS),), "class C:\n    pass")
        self.told(read("class C():\n    pass"), "class C:\n    pass")

    def test_putting_into_what_wants_brackets(self):
        for tree, text in ((("two", "+", A, B), "(a + b)"), (("minus", A), "(-a)"), (("not", A), "(not a)"),
                           (("both", "or", A, B), "(a or b)"), (("call", A, (B,)), "a(b)"), (("field", A, "b"), "a.b"),
                           (ONE, "1")):
            self.told((("put", tree, "x", ONE),), f"{text}.x = 1")
            self.assertEqual(read(f"{text}.x = 1"), (("put", tree, "x", ONE),))


class Brackets(Shows):
    def test_from_the_left(self):
        for signs in (("+", "-"), ("*", "//", "&", "|")):
            for first in signs:
                for second in signs:
                    self.tree(("two", second, ("two", first, A, B), C), f"a {first} b {second} c")
                    self.tree(("two", first, A, ("two", second, B, C)), f"a {first} (b {second} c)")
        for word in ("and", "or"):
            self.tree(("both", word, ("both", word, A, B), C), f"a {word} b {word} c")
            self.tree(("both", word, A, ("both", word, B, C)), f"a {word} (b {word} c)")

    def test_signs_that_compare(self):
        for first in COMPARES:
            for second in COMPARES:
                self.tree(("two", second, ("two", first, A, B), C), f"(a {first} b) {second} c")
                self.tree(("two", first, A, ("two", second, B, C)), f"a {first} (b {second} c)")

    def test_what_binds_more_and_less(self):
        self.tree(("both", "or", A, ("both", "and", B, C)), "a or b and c")
        self.tree(("both", "or", ("both", "and", A, B), C), "a and b or c")
        self.tree(("both", "and", ("both", "or", A, B), C), "(a or b) and c")
        self.tree(("both", "and", ("not", A), ("not", B)), "not a and not b")
        self.tree(("not", ("both", "and", A, B)), "not (a and b)")
        self.tree(("not", ("two", "==", A, B)), "not a == b")
        self.tree(("two", "==", ("not", A), B), "(not a) == b")
        self.tree(("two", "==", A, ("not", B)), "a == (not b)")
        self.tree(("two", "<", ("two", "+", A, B), ("two", "*", B, C)), "a + b < b * c")
        self.tree(("two", "+", ("two", "<", A, B), C), "(a < b) + c")
        self.tree(("two", "+", A, ("two", "|", B, C)), "a + b | c")
        self.tree(("two", "|", ("two", "+", A, B), C), "(a + b) | c")
        self.tree(("two", "*", ("minus", A), ("minus", B)), "-a * -b")
        self.tree(("minus", ("two", "*", A, B)), "-(a * b)")
        self.tree(("minus", ("call", ("field", A, "b"), (C,))), "-a.b(c)")
        self.tree(("call", ("field", ("minus", A), "b"), (C,)), "(-a).b(c)")
        self.tree(("field", ("call", A, ()), "b"), "a().b")
        self.tree(("minus", ("not", A)), "-(not a)")
        self.tree(("call", A, (("both", "or", A, B), ("not", C))), "a(a or b, not c)")

    def test_none_round_whole_expressions(self):
        wide = ("both", "or", A, B)
        for statement, text in ((("do", wide), "a or b"), (("set", "x", wide), "x = a or b"),
                                (("more", "x", "*", wide), "x *= a or b"), (("return", wide), "return a or b"),
                                (("raise", wide, wide), "raise a or b from a or b"),
                                (("yield", "x", wide), "x = yield a or b"),
                                (("class", "C", (wide, wide), PASS), "class C(a or b, a or b):\n    pass"),
                                (("def", "f", (("c", wide),), PASS), "def f(c=a or b):\n    pass"),
                                (("for", "x", wide, PASS, ()), "for x in a or b:\n    pass")):
            self.told((statement,), text)
            self.assertEqual(read(text), (statement,))

    def pairs(self, text):
        """The places of brackets that belong together."""
        opened, found, in_text = [], [], False
        for place, sign in enumerate(text):
            in_text = in_text != (sign == '"')
            if not in_text and sign == "(":
                opened.append(place)
            if not in_text and sign == ")":
                found.append((opened.pop(), place))
        return found

    def test_no_bracket_can_be_left_out(self):
        met = 0
        for seed in range(400):
            tree = Maker(seed, names=("a", "b")).tree(5)
            text = shown((("do", tree),))
            for first, last in self.pairs(text):
                less = text[:first] + " " + text[first + 1:last] + " " + text[last + 1:]
                try:
                    self.assertNotEqual(read(less.strip()), (("do", tree),), text)
                except BadText:
                    pass
                met += 1
        self.assertGreater(met, 500)


class Elifs(Shows):
    def test_an_if_alone_in_an_else(self):
        self.told(chain(1), "if 0:\n    pass\nelif 1:\n    pass")
        self.told(chain(2, PASS), "if 0:\n    pass\nelif 1:\n    pass\nelif 2:\n    pass\nelse:\n    pass")

    def test_an_if_that_is_not_alone(self):
        inner = ("if", B, PASS, ())
        self.told((("if", A, PASS, (inner, ("do", C))),), "if a:\n    pass\nelse:\n    if b:\n        pass\n    c")
        self.told((("if", A, PASS, (("do", C), inner)),), "if a:\n    pass\nelse:\n    c\n    if b:\n        pass")
        self.told((("if", A, PASS, (inner, inner)),),
                  "if a:\n    pass\nelse:\n    if b:\n        pass\n    if b:\n        pass")

    def test_an_if_alone_in_other_elses(self):
        inner = (("if", B, PASS, ()),)
        self.told((("while", A, PASS, inner),), "while a:\n    pass\nelse:\n    if b:\n        pass")
        self.told((("for", "x", A, PASS, inner),), "for x in a:\n    pass\nelse:\n    if b:\n        pass")
        self.told((("try", PASS, ((None, None, PASS),), inner, None),),
                  "try:\n    pass\nexcept:\n    pass\nelse:\n    if b:\n        pass")
        self.told((("if", A, inner, ()),), "if a:\n    if b:\n        pass")

    def test_eight_side_by_side_and_more(self):
        for many in (7, 8, 9, 10, 16, 17, 18, 19, 26, 27, 40):
            rows = shown_chain(0, many, "")
            self.told(chain(many), "\n".join(rows))
            self.assertEqual(read("\n".join(rows)), chain(many))

    def test_an_else_behind_many(self):
        for many in (7, 8):
            rows = shown_chain(0, many, "") + ["else:", "    pass"]
            self.told(chain(many, PASS), "\n".join(rows))
        rows = shown_chain(0, 9, "") + ["    else:", "        pass"]
        self.told(chain(9, PASS), "\n".join(rows))

    def test_a_chain_within_a_block(self):
        rows = ["while a:"] + shown_chain(0, 12, "    ")
        self.told((("while", A, chain(12), ()),), "\n".join(rows))


class Sizes(Shows):
    def test_600_statements(self):
        self.told((("do", X),) * 600, "\n".join(["x"] * 600))
        self.told((("while", A, PASS, ()),) * 300, "\n".join(["while a:\n    pass"] * 300))

    def test_a_chain_of_300(self):
        self.told(chain(299), "\n".join(shown_chain(0, 299, "")))

    def test_deep_blocks(self):
        program = PASS
        for _ in range(299):
            program = (("while", A, program, ()),)
        rows = [" " * 4 * k + "while a:" for k in range(299)] + [" " * 4 * 299 + "pass"]
        self.told(program, "\n".join(rows))

    def test_deep_expressions(self):
        tree = X
        for _ in range(60):
            tree = ("minus", tree)
        self.told((("do", tree),), "-" * 60 + "x")

    def test_600_of_all_sorts(self):
        program = Maker(7, most=600).program()
        text = shown(program)
        self.assertEqual(shown(program), text)
        self.assertFalse(text.endswith("\n"))
        self.assertGreater(text.count("\n"), 599)


class ReadAgain(Shows):
    def test_many_programs_are_read_as_they_were(self):
        lengths = []
        for seed in range(700):
            program = Maker(seed, most=seed % 45).program()
            text = shown(program)
            lengths.append(len(text))
            self.assertEqual(read(text), program, text)
            self.assertEqual(shown(read(text)), text)
        self.assertGreater(max(lengths), 900)

    def test_what_is_shown_has_one_blank_between_words(self):
        for seed in range(200):
            for row in shown(Maker(seed, most=20).program()).split("\n"):
                words = '""'.join(row.strip().split('"')[::2])
                self.assertNotIn("  ", words)
                self.assertEqual(row, row.rstrip())
                for pair in ("( ", " )", " ,", " :", ". ", " ."):
                    self.assertNotIn(pair, words)


if __name__ == "__main__":
    unittest.main()
