"""Reading: statements and expressions with their trees, the bounds, and what is refused at which row."""
import random
import unittest

from grassnake.errors import BadName, BadRun, BadText
from grassnake.reading import read
from grassnake.showing import shown
from making import COMPARES, SIGNS, Maker, bracketed

A, B, C, D, X = (("name", name) for name in "abcdx")
ONE, TWO = ("number", 1), ("number", 2)
PASS = (("pass",),)
DO_A, DO_B, DO_C, DO_D = ((("do", tree),) for tree in (A, B, C, D))


class Reads(unittest.TestCase):
    def told(self, text, program):
        self.assertEqual(read(text), program, text)
        self.assertEqual(read(text), program, text)

    def tree(self, text, tree):
        self.told(text, (("do", tree),))

    def refused(self, text, at):
        for _ in range(2):
            with self.assertRaises(BadText, msg=repr(text)) as caught:
                read(text)
            self.assertEqual(caught.exception.at, at, text)
            self.assertIs(type(caught.exception.at), type(at))
            self.assertNotIsInstance(caught.exception, (BadName, BadRun))

    def refused_row(self, row):
        """Refused wherever it stands, and at its own number."""
        self.refused(row, 0)
        self.refused(f"{row}\nx", 0)
        self.refused(f"x\n\n   # y\n{row}\n/", 3)
        self.refused(f"if x:\n    {row}\n", 1)
        self.refused(f"def f():\n    x\n\n    {row}\n    x", 3)

    def let_by_and_refused(self, good, bad):
        self.assertIsInstance(read(good), tuple)
        self.refused_row(bad)


class SingleRows(Reads):
    def test_do(self):
        self.tree("x", X)
        self.tree("1", ONE)
        self.tree("a == b", ("two", "==", A, B))
        self.tree("a(b)", ("call", A, (B,)))
        self.tree("a.b", ("field", A, "b"))
        self.tree("(a.b)", ("field", A, "b"))

    def test_set(self):
        self.told("x = 1", (("set", "x", ONE),))
        self.told("x=a or b", (("set", "x", ("both", "or", A, B)),))
        self.told("x = x == 1", (("set", "x", ("two", "==", X, ONE)),))

    def test_put(self):
        self.told("a.x = 1", (("put", A, "x", ONE),))
        self.told("a.b.x = a.b", (("put", ("field", A, "b"), "x", ("field", A, "b")),))
        self.told("a(b).x = 1", (("put", ("call", A, (B,)), "x", ONE),))
        self.told("(a).x = 1", (("put", A, "x", ONE),))
        self.told("(a.b).x = 1", (("put", ("field", A, "b"), "x", ONE),))
        self.told("(a + b).x = 1", (("put", ("two", "+", A, B), "x", ONE),))
        self.told("1 .x = 1", (("put", ONE, "x", ONE),))
        self.told('"t".x = None', (("put", ("text", "t"), "x", ("none",)),))

    def test_what_is_no_field_ahead_of_a_set(self):
        for row in ("(a.x) = 1", "((a.x)) = 1", "(a) = 1", "1 = a", "True = a", "None = 1", '"a" = 1', "a() = 1",
                    "a.b() = 1", "-a.x = 1", "not a.x = 1", "b + a.x = 1", "b or a.x = 1", "b == a.x = 1", "a, b = 1",
                    "a.x, a.y = 1", "(a).(x) = 1", ".x = 1", "a. = 1", "= 1", "a.if = 1", "a.1 = 1", "a.x = b.x = 1",
                    "a = b = 1", "a = b.x = 1", "a.x = b = 1"):
            self.refused_row(row)

    def test_more(self):
        for sign in "+-*":
            self.told(f"x {sign}= a", (("more", "x", sign, A),))
            self.told(f"x{sign}=1 + 2", (("more", "x", sign, ("two", "+", ONE, TWO)),))

    def test_what_is_no_more(self):
        for row in ("a.x += 1", "(x) += 1", "1 += 1", "x //= 1", "x &= 1", "x |= 1", "x + = 1", "x +=", "x += yield a",
                    "x += y += 1", "x = y += 1", "+= 1", "x() -= 1"):
            self.refused_row(row)

    def test_words_by_themselves(self):
        for word in ("pass", "break", "continue"):
            self.told(word, ((word,),))
            self.told(f"  \n{word}   # {word}", ((word,),))
            for row in (f"{word} x", f"{word} 1", f"{word}:", f"{word} {word}", f"{word}()", f"x = {word}"):
                self.refused_row(row)

    def test_return(self):
        self.told("return", (("return", None),))
        self.told("return x", (("return", X),))
        self.told("return (None)", (("return", ("none",)),))
        for row in ("return return", "return x y", "return a, b", "return = 1", "return yield a", "return:"):
            self.refused_row(row)

    def test_raise(self):
        self.told("raise", (("raise", None, None),))
        self.told("raise a", (("raise", A, None),))
        self.told("raise a from b", (("raise", A, B),))
        self.told("raise a() from None", (("raise", ("call", A, ()), ("none",)),))
        for row in ("raise from a", "raise a from", "raise a b", "raise a from b from c", "raise a, b", "raise:"):
            self.refused_row(row)

    def test_global_and_nonlocal(self):
        for word in ("global", "nonlocal"):
            self.told(f"{word} a", ((word, ("a",)),))
            self.told(f"{word} a, b,c", ((word, ("a", "b", "c")),))
            self.told(f"{word} a, a", ((word, ("a", "a")),))
            for row in (word, f"{word} a,", f"{word} ,a", f"{word} a,,b", f"{word} a b", f"{word} 1", f"{word} (a)",
                        f"{word} a.b", f"{word} a = 1", f"{word} a, if", f"{word}()"):
                self.refused_row(row)

    def test_yield(self):
        self.told("yield a", (("yield", None, A),))
        self.told("x = yield a", (("yield", "x", A),))
        self.told("x = yield (a or b)", (("yield", "x", ("both", "or", A, B)),))
        self.told("yield None", (("yield", None, ("none",)),))
        for row in ("yield", "x = yield", "(yield a)", "x = (yield a)", "a.x = yield b", "yield yield a", "yield a, b",
                    "x = y = yield a", "f(yield a)", "x == yield a", "yield = 1", "yield from a", "1 + yield a"):
            self.refused_row(row)

    def test_told_words_that_begin_nothing(self):
        for word in ("and", "as", "from", "in", "or"):
            for row in (word, f"{word} x", f"{word}:", f"{word} = 1", f"x = {word}", f"x.{word}", f"{word}(x)"):
                self.refused_row(row)

    def test_rows_in_their_order(self):
        self.told("a\nx = 1\nb", (("do", A), ("set", "x", ONE), ("do", B)))


class WithBlocks(Reads):
    def test_def(self):
        self.told("def f():\n    a", (("def", "f", (), DO_A),))
        self.told("def f(a):\n    pass", (("def", "f", (("a", None),), PASS),))
        self.told("def f ( a , b=1,c = a or b ) :\n    pass",
                  (("def", "f", (("a", None), ("b", ONE), ("c", ("both", "or", A, B))), PASS),))
        self.told("def f(a=1):\n    a\n    b", (("def", "f", (("a", ONE),), DO_A + DO_B),))
        self.told("def f(a, a):\n    a", (("def", "f", (("a", None), ("a", None)), DO_A),))

    def test_how_many_params(self):
        self.told("def f(a, b, c, d):\n    a", (("def", "f", tuple((name, None) for name in "abcd"), DO_A),))
        self.told("def f(a=1, b=1, c=1, d=1):\n    a", (("def", "f", tuple((name, ONE) for name in "abcd"), DO_A),))
        for row in ("def f(a, b, c, d, e):", "def f(a, b, c, d, e=1):", "def f(a=1, b=1, c=1, d=1, e=1):"):
            self.refused_row(row)

    def test_params_that_are_none(self):
        for row in ("def f(a=1, b):", "def f(a, b=1, c):", "def f(a=1, b, c=2):", "def f(a,):", "def f(,):",
                    "def f(,a):",
                    "def f(a,,b):", "def f(a b):", "def f(a=):", "def f(=1):", "def f(1):", "def f(a.b):",
                    "def f((a)):",
                    "def f(a==1):", "def f(a=b=1):", "def f(a:b):", "def f(if):", "def f(a=yield b):", "def f(a+=1):"):
            self.refused_row(row)

    def test_heads_of_defs_that_are_none(self):
        for row in ("def f:", "def ():", "def f()", "def f(", "def f):", "def f(a:", "def f()):", "def f()():", "def:",
                    "def",
                    "def f.g():", "def 1():", "def f(): a", "def f() a:", "def if():", "def (f)():", "def f()::"):
            self.refused_row(row)

    def test_class(self):
        self.told("class C:\n    a", (("class", "C", (), DO_A),))
        self.told("class C():\n    a", (("class", "C", (), DO_A),))
        self.told("class C(a):\n    pass", (("class", "C", (A,), PASS),))
        self.told("class C(a, b.c, d()):\n    pass", (("class", "C", (A, ("field", B, "c"), ("call", D, ())), PASS),))
        self.told("class C((a)):\n    a\n    b", (("class", "C", (A,), DO_A + DO_B),))

    def test_heads_of_classes_that_are_none(self):
        for row in ("class C(a, b, c, d):", "class C(a,):", "class C(,a):", "class C(a,,b):", "class C(a b):",
                    "class C(,):",
                    "class C(a=b):", "class C(", "class C(a", "class C)", "class C(a:", "class C", "class C()",
                    "class:",
                    "class", "class 1:", "class (C):", "class C.d:", "class C()():", "class C: a", "class if:"):
            self.refused_row(row)

    def test_if(self):
        self.told("if a:\n    b", (("if", A, DO_B, ()),))
        self.told("if a:\n    b\nelse:\n    c", (("if", A, DO_B, DO_C),))
        self.told("if a:\n    b\nc", (("if", A, DO_B, ()), ("do", C)))

    def test_elif(self):
        self.told("if a:\n    b\nelif c:\n    d", (("if", A, DO_B, (("if", C, DO_D, ()),)),))
        self.told("if a:\n    b\nelif c:\n    d\nelse:\n    a", (("if", A, DO_B, (("if", C, DO_D, DO_A),)),))
        self.told("if a:\n    a\nelif b:\n    b\nelif c:\n    c\nelse:\n    d",
                  (("if", A, DO_A, (("if", B, DO_B, (("if", C, DO_C, DO_D),)),)),))

    def test_elif_is_an_if_alone_in_else(self):
        self.assertEqual(read("if a:\n    b\nelif c:\n    d"), read("if a:\n    b\nelse:\n    if c:\n        d"))
        self.assertEqual(read("if a:\n    b\nelif c:\n    d\nelse:\n    a"),
                         read("if a:\n    b\nelse:\n    if c:\n        d\n    else:\n        a"))

    def test_eight_elifs_and_one_more(self):
        eight = "if a:\n    a" + "\nelif b:\n    b" * 8
        second = ()
        for _ in range(8):
            second = (("if", B, DO_B, second),)
        self.told(eight, (("if", A, DO_A, second),))
        self.assertEqual(len(read(eight + "\nelse:\n    c")), 1)
        self.refused(eight + "\nelif b:\n    b", 18)
        self.refused(eight + "\nelif b:", 18)
        self.refused("if a:\n    a" + "\nelif b:\n    b" * 9 + "\nelse:\n    c", 18)
        again = "if c:\n    c" + "\nelif d:\n    d" * 8
        self.assertEqual(len(read(eight + "\n" + again)), 2)
        inner = again.replace("\n", "\n    ")
        self.assertEqual(len(read(eight + "\nelse:\n    " + inner)), 1)

    def test_while(self):
        self.told("while a:\n    b", (("while", A, DO_B, ()),))
        self.told("while a:\n    b\nelse:\n    c", (("while", A, DO_B, DO_C),))

    def test_for(self):
        self.told("for x in a:\n    b", (("for", "x", A, DO_B, ()),))
        self.told("for x in a or b:\n    b\nelse:\n    c\n    d",
                  (("for", "x", ("both", "or", A, B), DO_B, DO_C + DO_D),))

    def test_heads_that_are_none(self):
        for word in ("if", "while"):
            for row in (f"{word}:", word, f"{word} a", f"{word} a: b", f"{word} a b:", f"{word} a, b:", f"{word} a::",
                        f"{word} a = b:", f"{word} (a:", f"{word}(a):)", f"{word} : a", f"{word} yield a:"):
                self.refused_row(row)
        for row in ("for:", "for x:", "for x in:", "for x in a", "for in a:", "for 1 in a:", "for x.y in a:",
                    "for (x) in a:", "for x, y in a:", "for x in a, b:", "for x a:", "for x in a: b", "for x in in a:",
                    "for x = a:", "for if in a:", "x in a"):
            self.refused_row(row)

    def test_try(self):
        self.told("try:\n    a\nexcept b:\n    c", (("try", DO_A, ((B, None, DO_C),), (), None),))
        self.told("try:\n    a\nexcept b as x:\n    c", (("try", DO_A, ((B, "x", DO_C),), (), None),))
        self.told("try:\n    a\nexcept:\n    c", (("try", DO_A, ((None, None, DO_C),), (), None),))
        self.told("try:\n    a\nfinally:\n    d", (("try", DO_A, (), (), DO_D),))
        self.told("try:\n    a\nexcept b:\n    c\nelse:\n    d", (("try", DO_A, ((B, None, DO_C),), DO_D, None),))
        self.told("try:\n    a\nexcept b:\n    c\nfinally:\n    d", (("try", DO_A, ((B, None, DO_C),), (), DO_D),))
        self.told("try:\n    a\nexcept:\n    b\nelse:\n    c\nfinally:\n    d",
                  (("try", DO_A, ((None, None, DO_B),), DO_C, DO_D),))

    def test_catches_in_their_order(self):
        self.told("try:\n    a\nexcept a or b as x:\n    b\nexcept c:\n    c\nexcept:\n    d\nelse:\n    a\n"
                  "finally:\n    b",
                  (("try", DO_A, ((("both", "or", A, B), "x", DO_B), (C, None, DO_C), (None, None, DO_D)), DO_A, DO_B),
                   ))
        many = "try:\n    a" + "\nexcept b as x:\n    c" * 30
        self.told(many, (("try", DO_A, ((B, "x", DO_C),) * 30, (), None),))

    def test_heads_of_catches_that_are_none(self):
        for head in ("except as x:", "except b as:", "except b as 1:", "except b as x.y:", "except b x:",
                     "except b, c:",
                     "except b as x as y:", "except b", "except", "except: c", "except b as if:", "except = b:", "else",
                     "else b:", "else: b", "finally", "finally b:", "finally: b", "elif b:", "else if b:", "try b:"):
            self.refused(f"try:\n    a\nexcept c:\n    b\n{head}\n    c", 4)
        for row in ("try", "try a:", "try: a", "try::"):
            self.refused_row(row)

    def test_what_may_not_follow_in_a_try(self):
        self.refused("try:\n    a\nexcept:\n    b\nexcept c:\n    d", 4)
        self.refused("try:\n    a\nexcept:\n    b\nexcept:\n    d", 4)
        self.refused("try:\n    a\nelse:\n    b", 2)
        self.refused("try:\n    a\nelse:\n    b\nexcept c:\n    d", 2)
        self.refused("try:\n    a\nelse:\n    b\nfinally:\n    d", 2)
        self.refused("try:\n    a\nfinally:\n    b\nelse:\n    c", 4)
        self.refused("try:\n    a\nfinally:\n    b\nexcept c:\n    c", 4)
        self.refused("try:\n    a\nfinally:\n    b\nfinally:\n    c", 4)
        self.refused("try:\n    a\nexcept b:\n    b\nelse:\n    c\nexcept c:\n    c", 6)
        self.refused("try:\n    a\nexcept b:\n    b\nelse:\n    c\nelse:\n    c", 6)
        self.refused("try:\n    a\nexcept b:\n    b\nelif c:\n    c", 4)

    def test_a_try_without_except_and_finally(self):
        self.refused("try:\n    a", 2)
        self.refused("try:\n    a\n", 3)
        self.refused("try:\n    a\n\n# b", 4)
        self.refused("try:\n    a\nb", 2)
        self.refused("try:\n    a\n\nb\nexcept c:\n    d", 3)
        self.refused("try:\n    a\ntry:\n    b\nfinally:\n    c", 2)
        self.refused("if a:\n    try:\n        b\nelse:\n    c", 3)
        self.refused("if a:\n    try:\n        b\nc", 3)
        self.refused("if a:\n    try:\n        b\n", 4)
        self.refused("try:\n    try:\n        a\nfinally:\n    b", 3)
        self.refused("try:\n    try:\n        a\n    finally:\n        b", 5)
        self.refused("if a:\n    try:\n        b\n    c", 3)

    def test_what_may_not_follow_elsewhere(self):
        for head in ("elif b:", "else:", "except:", "except b:", "finally:"):
            self.refused_row(head)
            self.refused(f"{head}\n    a", 0)
            self.refused(f"x = 1\n{head}\n    a", 1)
            self.refused(f"def f():\n    a\n{head}\n    a", 2)
            self.refused(f"class f:\n    a\n{head}\n    a", 2)
            self.refused(f"if a:\n    b\nelse:\n    c\n{head}\n    a", 4)
            self.refused(f"if a:\n    b\n    {head}\n        a", 2)
            self.refused(f"if a:\n    b\nx\n{head}\n    a", 3)
        for head in ("elif b:", "except:", "except b:", "finally:"):
            self.refused(f"while a:\n    b\n{head}\n    a", 2)
            self.refused(f"for a in b:\n    b\n{head}\n    a", 2)
            self.refused(f"while a:\n    b\nelse:\n    c\n{head}\n    a", 4)
        for head in ("except:", "finally:"):
            self.refused(f"if a:\n    b\n{head}\n    a", 2)
            self.refused(f"if a:\n    b\nelif c:\n    b\n{head}\n    a", 4)
        self.refused("while a:\n    b\nelse:\n    c\nelse:\n    d", 4)

    def test_clauses_are_of_the_last_statement_at_their_indent(self):
        self.told("while a:\n    if b:\n        c\nelse:\n    d", (("while", A, (("if", B, DO_C, ()),), DO_D),))
        self.told("while a:\n    if b:\n        c\n    else:\n        d", (("while", A, (("if", B, DO_C, DO_D),), ()),))
        self.told("while a:\n    b\nif c:\n    d\nelse:\n    a", (("while", A, DO_B, ()), ("if", C, DO_D, DO_A)))
        self.told("try:\n    try:\n        a\n    finally:\n        b\nexcept:\n    c",
                  (("try", (("try", DO_A, (), (), DO_B),), ((None, None, DO_C),), (), None),))


class Expressions(Reads):
    def test_single_things(self):
        self.tree("0", ("number", 0))
        self.tree("999999999999", ("number", 999999999999))
        self.tree('""', ("text", ""))
        self.tree('"a # b"', ("text", "a # b"))
        self.tree("True", ("truth", True))
        self.tree("False", ("truth", False))
        self.tree("None", ("none",))
        self.tree("abc_1", ("name", "abc_1"))
        self.tree("(x)", X)
        self.tree("((x))", X)

    def test_kinds(self):
        self.assertIs(read("True")[0][1][1], True)
        self.assertIs(read("False")[0][1][1], False)
        self.assertIs(type(read("1")[0][1][1]), int)

    def test_pairs(self):
        for sign in SIGNS:
            self.tree(f"a {sign} b", ("two", sign, A, B))
            self.tree(f"a{sign}b", ("two", sign, A, B))
        for word in ("and", "or"):
            self.tree(f"a {word} b", ("both", word, A, B))

    def test_ahead(self):
        self.tree("not a", ("not", A))
        self.tree("not not a", ("not", ("not", A)))
        self.tree("-a", ("minus", A))
        self.tree("--1", ("minus", ("minus", ONE)))
        self.tree("not -a", ("not", ("minus", A)))
        self.tree("-(not a)", ("minus", ("not", A)))

    def test_behind(self):
        self.tree("a()", ("call", A, ()))
        self.tree("a(b, 1)", ("call", A, (B, ONE)))
        self.tree("a.b", ("field", A, "b"))
        self.tree("a.b.c", ("field", ("field", A, "b"), "c"))
        self.tree("a(b)(c)", ("call", ("call", A, (B,)), (C,)))
        self.tree("a.b(c).d", ("field", ("call", ("field", A, "b"), (C,)), "d"))
        self.tree("a (b) . c", ("field", ("call", A, (B,)), "c"))
        self.tree("(a + b)(c)", ("call", ("two", "+", A, B), (C,)))
        self.tree('1 .x', ("field", ONE, "x"))
        self.tree('1.x', ("field", ONE, "x"))
        self.tree('"t"(None)', ("call", ("text", "t"), (("none",),)))
        self.tree("a(b or c, not d)", ("call", A, (("both", "or", B, C), ("not", D))))

    def test_from_the_left(self):
        for word in ("and", "or"):
            self.tree(f"a {word} b {word} c", ("both", word, ("both", word, A, B), C))
        for signs in (("+", "-"), ("*", "//", "&", "|")):
            for first in signs:
                for second in signs:
                    self.tree(f"a {first} b {second} c", ("two", second, ("two", first, A, B), C))
                    self.tree(f"a {first} (b {second} c)", ("two", first, A, ("two", second, B, C)))

    def test_what_binds_less(self):
        rows = [("both", ("or",)), ("both", ("and",)), ("two", COMPARES), ("two", ("+", "-")),
                ("two", ("*", "//", "&", "|"))]
        for place, (kind, signs) in enumerate(rows):
            for closer, close_signs in rows[place + 1:]:
                for sign in signs:
                    for close in close_signs:
                        self.tree(f"a {sign} b {close} c", (kind, sign, A, (closer, close, B, C)))
                        self.tree(f"a {close} b {sign} c", (kind, sign, (closer, close, A, B), C))
                        self.tree(f"(a {sign} b) {close} c", (closer, close, (kind, sign, A, B), C))

    def test_what_not_binds(self):
        self.tree("not a or b", ("both", "or", ("not", A), B))
        self.tree("not a and b", ("both", "and", ("not", A), B))
        self.tree("a and not b", ("both", "and", A, ("not", B)))
        self.tree("not a == b", ("not", ("two", "==", A, B)))
        self.tree("not a + b", ("not", ("two", "+", A, B)))
        self.tree("not a * b", ("not", ("two", "*", A, B)))
        self.tree("not a.b", ("not", ("field", A, "b")))
        self.tree("not a < b and c", ("both", "and", ("not", ("two", "<", A, B)), C))
        for text in ("a == not b", "a + not b", "a * not b", "- not a", "a < not b", "not", "a not b", "not()"):
            self.refused_row(text)

    def test_what_minus_binds(self):
        for sign in SIGNS:
            self.tree(f"-a {sign} b", ("two", sign, ("minus", A), B))
            self.tree(f"a {sign} -b", ("two", sign, A, ("minus", B)))
        self.tree("-a.b", ("minus", ("field", A, "b")))
        self.tree("-a(b)", ("minus", ("call", A, (B,))))
        self.tree("(-a).b", ("field", ("minus", A), "b"))
        self.tree("a - -b", ("two", "-", A, ("minus", B)))
        self.tree("a--b", ("two", "-", A, ("minus", B)))

    def test_no_two_that_compare_side_by_side(self):
        for first in COMPARES:
            for second in COMPARES:
                self.refused_row(f"a {first} b {second} c")
                self.tree(f"(a {first} b) {second} c", ("two", second, ("two", first, A, B), C))
                self.tree(f"a {first} (b {second} c)", ("two", first, A, ("two", second, B, C)))
        self.tree("a < b and b < c", ("both", "and", ("two", "<", A, B), ("two", "<", B, C)))
        self.refused_row("a < b + c < d")

    def test_what_is_no_expression(self):
        for text in ("a b", "1 2", "a 1", '"a" "b"', "a +", "* a", "+a", "a + + b", "a or", "or a", "a and or b", "(a",
                     "a)", "()", "(a,)", "(a, b)", "a.", "a..b", ".a", "a.1", 'a."b"', "a.(b)", "a.not", "a(", "a(b",
                     "a(b,)", "a(,)", "a(,b)", "a(b,,c)", "a(b c)", "a(b=c)", "a,", "a, b", ",", ")", "(", "a if b",
                     "a & & b", "a ** b", "a // // b", "a =", "a ==", "a === b", "a != = b", "a <> b", ":", "a:",
                     "a: b",
                     "(a:b)", "lambda: a", "a in b", "a is b", "a[b]", "a % b", "a / b", "True False", "(a)(", "None.1",
                     "a(b))", "((a)", "a + (b", "a.b.", "-", "- -", "1 -", "=", "+=", "a(b", "(a b)", "(a = b)"):
            self.refused_row(text)

    def test_many_expressions_with_every_bracket(self):
        for seed in range(300):
            tree = Maker(seed).tree(4)
            self.tree(bracketed(tree), tree)
            self.tree(f"( {bracketed(tree)} ) ", tree)


class Bounds(Reads):
    def test_deep(self):
        for make in (lambda n: "not " * n + "x", lambda n: "-" * n + "x", lambda n: "x" + ".a" * n,
                     lambda n: "x" + "()" * n, lambda n: "f(" * n + "x" + ")" * n, lambda n: "x" + " + x" * n,
                     lambda n: "x" + " * 1" * n, lambda n: "x" + " and x" * n, lambda n: "x" + " or x" * n,
                     lambda n: "x + (" * n + "x" + ")" * n, lambda n: "not " * (n - 1) + "-x", lambda n: "- " * n + "1",
                     lambda n: "(" + "x" + ".a" * n + ")"):
            self.let_by_and_refused(make(11), make(12))
            for more in (12, 13, 14, 40):
                self.refused_row(make(more))

    def test_deep_at_the_right_and_within_values(self):
        eleven = "x" + ".a" * 10
        twelve = "x" + ".a" * 11
        for form in ("1 + {}", "f(1, {})", "f(1, 1, {}, 1)", "{} < 1", "-({})", "not {}"):
            self.let_by_and_refused(form.format(eleven), form.format(twelve))

    def test_deep_in_each_statement(self):
        deep, deeper = "x" + ".a" * 11, "x" + ".a" * 12
        for form in ("x = {}", "a.x = {}", "x += {}", "return {}", "raise {}", "raise a from {}", "yield {}",
                     "x = yield {}"):
            self.let_by_and_refused(form.format(deep), form.format(deeper))
        for form in ("if {}:", "while {}:", "for x in {}:", "def f(a={}):", "class C({}):", "class C(a, {}):"):
            self.assertEqual(len(read(form.format(deep) + "\n    pass")), 1)
            self.refused_row(form.format(deeper))
        self.assertEqual(len(read(f"try:\n    a\nexcept {deep}:\n    a\nexcept {deep} as x:\n    b")), 1)
        self.refused(f"try:\n    a\nexcept {deeper}:\n    a", 2)
        self.assertEqual(len(read(f"if a:\n    a\nelif {deep}:\n    a")), 1)
        self.refused(f"if a:\n    a\nelif {deeper}:\n    a", 2)

    def test_a_field_ahead_of_a_set_is_counted(self):
        self.let_by_and_refused("x" + ".a" * 11 + " = 1", "x" + ".a" * 12 + " = 1")

    def test_parts(self):
        six = "f(x, x, x, x)"
        sixty = f"f({six}, {six}, {six}, {six}) + f({six}, {six}, {six}, {six}) + f(x)"
        count = self.parts(read(sixty)[0][1])
        self.assertEqual(count, 57)
        self.let_by_and_refused(sixty + ".a.a.a", sixty + ".a.a.a.a")
        self.let_by_and_refused(f"-({sixty} + x)", f"--({sixty} + x)")
        self.let_by_and_refused(f"not ({sixty} + x)", f"not ({sixty} + x.a)")
        self.let_by_and_refused(f"({sixty})(x, x)", f"({sixty})(x, x, x)")
        self.let_by_and_refused(f"({sixty}) or -x", f"({sixty}) or --x")
        self.assertEqual(self.parts(read(sixty + ".a.a.a")[0][1]), 60)

    def parts(self, tree):
        inner = [part for part in tree[1:] if isinstance(part, tuple)]
        if tree[0] == "call":
            inner = [tree[1]] + list(tree[2])
        return 1 + sum(self.parts(part) for part in inner)

    def test_parts_are_counted_for_each_expression(self):
        six = "f(x, x, x, x)"
        thirty = f"f({six}, {six}, {six}, {six}) + f(x)"
        self.assertEqual(len(read(f"raise {thirty} from {thirty}\nclass C({thirty}, {thirty}, {thirty}):\n    pass\n"
                                  f"def f(a={thirty}, b={thirty}):\n    pass")), 3)

    def test_brackets(self):
        for left, right in (("", ""), ("-", ""), ("x = ", ""), ("return ", ""), ("1 + ", ""), ("", ".a"), ("", "()")):
            good = left + "(" * 12 + "x" + ")" * 12 + right
            bad = left + "(" * 13 + "x" + ")" * 13 + right
            self.let_by_and_refused(good, bad)
        self.tree("(" * 12 + "x" + ")" * 12, X)
        self.refused_row("(" * 1000 + "x" + ")" * 1000)
        self.refused_row("(" * 1000)

    def test_brackets_of_calls_are_counted(self):
        self.let_by_and_refused("f(" + "(" * 11 + "x" + ")" * 12, "f(" + "(" * 12 + "x" + ")" * 13)
        self.let_by_and_refused("f(g(" + "(" * 10 + "x" + ")" * 12, "f(g(" + "(" * 11 + "x" + ")" * 13)
        self.let_by_and_refused("(" * 11 + "f()" + ")" * 11, "(" * 12 + "f()" + ")" * 12)
        self.let_by_and_refused("f(1, " + "(" * 11 + "x" + ")" * 12, "f(1, " + "(" * 12 + "x" + ")" * 13)

    def test_brackets_of_classes_are_counted(self):
        self.assertEqual(len(read("class C(" + "(" * 11 + "x" + ")" * 12 + ":\n    pass")), 1)
        self.refused_row("class C(" + "(" * 12 + "x" + ")" * 13 + ":")
        self.refused_row("class C(a, f(" + "(" * 11 + "x" + ")" * 13 + ":")

    def test_brackets_of_defs_are_not(self):
        self.assertEqual(len(read("def f(a=" + "(" * 12 + "x" + ")" * 13 + ":\n    pass")), 1)
        self.refused_row("def f(a=" + "(" * 13 + "x" + ")" * 14 + ":")

    def test_brackets_side_by_side_are_not_within_one_another(self):
        self.assertEqual(len(read("x = " + " + ".join(["(a)"] * 12))), 1)
        self.assertEqual(len(read("f" + "()" * 11)), 1)
        twelve = "(" * 12 + "x" + ")" * 12
        self.assertEqual(len(read(f"{twelve} + {twelve} * {twelve}")), 1)
        self.refused_row(f"(a) + (b) + ({twelve})")
        self.refused_row(f"f(a)(b)({twelve})")

    def test_not_and_minus_side_by_side(self):
        for first in range(14):
            for second in range(14 - first):
                text = "not " * first + "-" * second + "x"
                if first + second <= 11:
                    self.assertEqual(len(read(text)), 1)
                else:
                    self.refused_row(text)
        self.refused_row("not " * 900 + "x")
        self.refused_row("-" * 3000 + "x")

    def test_values_of_a_call(self):
        self.tree("f(a, b, c, d)", ("call", ("name", "f"), (A, B, C, D)))
        for row in ("f(a, b, c, d, x)", "x.f(a, b, c, d, x)", "f(f(a, b, c, d, x))", "f" + "(x" + ", x" * 900 + ")"):
            self.refused_row(row)

    def test_long_rows(self):
        for row in ("x" + ".a" * 1900, "x" + "()" * 1900, "x" + "+x" * 1900, "f(" * 1900, "not " * 900):
            self.refused(row, 0)
        self.refused("x = " + " or ".join(["x"] * 700), 0)
        self.assertEqual(len(read("global " + ", ".join(["a"] * 1000))[0][1]), 1000)


class Rows(Reads):
    def test_indents_that_are_none(self):
        for blanks in (1, 2, 3, 5, 6, 7, 9, 51, 52, 53, 400):
            self.refused(" " * blanks + "x", 0)
            self.refused("y\n" + " " * blanks + "x", 1)
        for blanks in (0, 1, 2, 3, 5, 6, 7, 8, 12):
            self.refused("if a:\n" + " " * blanks + "x", 1)
        for blanks in (1, 2, 3, 5, 8):
            self.refused("if a:\n    b\n" + " " * blanks + "x", 2)

    def test_too_deep(self):
        self.refused("    x", 0)
        self.refused("x\n    y", 1)
        self.refused("if a:\n        x", 1)
        self.refused("if a:\n    x\n        y", 2)
        self.refused("if a:\n    x\ny\n    z", 3)
        self.refused("if a:\n    x\n    else:\n        y", 2)

    def test_too_shallow(self):
        self.refused("if a:\nx", 1)
        self.refused("if a:\n    if b:\n    x", 2)
        self.refused("if a:\n    if b:\nx", 2)
        self.refused("if a:\nelse:\n    x", 1)
        self.refused("if a:\n    x\nelse:\ny", 3)
        self.refused("try:\nexcept:\n    x", 1)
        self.refused("def f():\n\n# x\ny", 3)

    def test_blocks_end_together(self):
        self.told("if a:\n    while b:\n        c\nd", (("if", A, (("while", B, DO_C, ()),), ()), ("do", D)))
        self.told("if a:\n    while b:\n        c\n    d", (("if", A, (("while", B, DO_C, ()), ("do", D)), ()),))

    def test_a_block_that_lacks_at_the_end(self):
        for head in ("if a:", "while a:", "for x in a:", "def f():", "class C:", "try:"):
            self.refused(head, 1)
            self.refused(f"{head}\n", 2)
            self.refused(f"{head}\n\n  # x\n     ", 4)
            self.refused(f"x\n{head}", 2)
            self.refused(f"if b:\n    {head}", 2)
        self.refused("if a:\n    b\nelse:", 3)
        self.refused("if a:\n    b\nelif c:", 3)
        self.refused("try:\n    b\nexcept:", 3)
        self.refused("try:\n    b\nexcept c:", 3)
        self.refused("try:\n    b\nfinally:\n", 4)

    def test_rows_without_words_are_passed_over(self):
        text = "\n  # r\nif a:\n\n # r\n" + " " * 60 + "# r\n    b  # r\n       \n#\nelse: # r\n\n    c\n\n"
        self.told(text, (("if", A, DO_B, DO_C),))

    def test_a_row_with_something_that_is_no_word(self):
        for row in ("/", "a / b", "1a", "007", "a!", '"a', "x = [1]", "a" * 13, "1234567890123", '"' + "x" * 41 + '"',
                    "_a"):
            self.refused_row(row)
        self.assertEqual(len(read("a # /\n# 007\n")), 1)

    def test_blocks_within_one_another(self):
        twelve = [" " * 4 * k + "if a:" for k in range(12)] + [" " * 48 + "b"]
        program = read("\n".join(twelve))
        for _ in range(12):
            self.assertEqual(program[0][:2], ("if", A))
            program = program[0][2]
        self.assertEqual(program, DO_B)

    def test_thirteen_blocks(self):
        opened = [" " * 4 * k + "if a:" for k in range(13)]
        self.refused("\n".join(opened + [" " * 52 + "b"]), 13)
        self.refused("\n".join(opened + [" " * 48 + "b"]), 13)
        self.refused("\n".join(opened + ["b"]), 13)
        self.refused("\n".join(opened), 13)
        self.refused("\n".join(opened + [""]), 14)
        self.refused("\n".join(opened + ["", " " * 52 + "b"]), 14)

    def test_the_first_row_that_cannot_stand(self):
        self.refused("x\n/\n/", 1)
        self.refused("x\n    y\n/", 1)
        self.refused("try:\n    x\ny\n/", 2)
        self.refused("if a:\n    x y\nelse\n", 1)

    def test_no_statements(self):
        for text in ("", "\n", "   ", "# x", "\n\n   # x\n" + " " * 70 + "\n"):
            self.told(text, ())


class Sizes(Reads):
    def test_signs(self):
        for filler in ("#" + "x" * 3997, "#" + " " * 3997, " " * 3998):
            self.told("x\n" + filler, (("do", X),))
            self.refused("x\n" + filler + " ", None)
            self.refused("/\n" + filler + " ", None)
        self.told(" " * 4000, ())
        self.refused(" " * 4001, None)
        self.refused("x" * 4001, None)
        self.refused("(" * 5000, None)

    def test_rows(self):
        self.told("\n" * 199, ())
        self.refused("\n" * 200, None)
        self.told("x" + "\n" * 199, (("do", X),))
        self.refused("x" + "\n" * 200, None)
        self.refused("/" + "\n" * 200, None)
        self.refused("/" + "\n" * 199, 0)
        self.refused("\n" * 199 + "if x:", 200)
        self.refused("\n" * 198 + "if x:\n", 200)

    def test_statements(self):
        self.told("\n".join(["x"] * 150), (("do", X),) * 150)
        self.refused("\n".join(["x"] * 151), 150)
        self.refused("\n".join(["x"] * 160), 150)
        self.refused("\n\n" + "\n".join(["x"] * 151), 152)

    def test_statements_in_blocks_are_counted(self):
        pairs = ["if x:\n    x"] * 75
        self.assertEqual(len(read("\n".join(pairs))), 75)
        self.refused("\n".join(pairs + ["x"]), 150)
        self.refused("\n".join(["x"] + pairs), 150)
        defs = ["def f():\n    x\n    x"] * 50
        self.assertEqual(len(read("\n".join(defs))), 50)
        self.refused("\n".join(defs + ["x"]), 150)

    def test_elifs_are_counted(self):
        chain = "if x:\n    x" + "\nelif x:\n    x" * 4
        self.assertEqual(len(read("\n".join([chain] * 15))), 15)
        self.refused("\n".join([chain] * 15 + ["x"]), 150)
        base = ["x"] * 147
        self.assertEqual(len(read("\n".join(base + ["if x:\n    x\nelse:\n    x"]))), 148)
        self.refused("\n".join(base + ["if x:\n    x\nelif x:\n    x"]), 150)
        self.refused("\n".join(base + ["x", "if x:\n    x\nelif x:\n    x"]), 150)

    def test_clauses_are_not_counted(self):
        rows = ["x"] * 147 + ["try:", "    x", "finally:", "    x"]
        self.assertEqual(len(read("\n".join(rows))), 148)
        self.refused("\n".join(rows + ["x"]), 151)
        self.refused("\n".join(["x"] * 148 + ["try:", "    x", "finally:", "    x"]), 151)

    def test_a_row_that_opens_a_block_may_be_the_last(self):
        self.refused("\n".join(["x"] * 149 + ["if x:"]), 150)
        self.refused("\n".join(["x"] * 149 + ["if x:", "    x"]), 150)
        self.refused("\n".join(["x"] * 149 + ["if x:", "", "    x"]), 151)
        self.refused("\n".join(["x"] * 150 + ["if x:"]), 150)
        self.refused("\n".join(["x"] * 148 + ["if x:", "    x", "else:", "    x"]), 151)
        self.refused("\n".join(["x"] * 148 + ["if x:", "    x", "else:"]), 151)
        self.refused("\n".join(["x"] * 148 + ["if x:", "    x", "elif x:", "    x"]), 150)

    def test_many_ifs_in_elses(self):
        rows = []
        for level in range(12):
            blanks = "    " * level
            rows += [blanks + "if a:", blanks + "    b"] + [blanks + "elif a:",
                                                            blanks + "    b"] * 4 + [blanks + "else:"]
        program = read("\n".join(rows + [" " * 48 + "c"]))
        for _ in range(60):
            self.assertEqual(program[0][:3], ("if", A, DO_B))
            program = program[0][3]
        self.assertEqual(program, DO_C)


class NoTexts(Reads):
    def test_other_kinds(self):
        things = (None, 0, 1, 200, True, False, -1, 1.5, b"x", ["x"], [], (), ("x",), {}, {"x": 1}, object(), str,
                  10 ** 3999)
        for thing in things:
            with self.assertRaises(BadText) as caught:
                read(thing)
            self.assertIsNone(caught.exception.at)

    def test_what_is_handed_in_is_not_changed(self):
        rows = ["x", "y"]
        self.assertRaises(BadText, read, rows)
        self.assertEqual(rows, ["x", "y"])

    def test_texts_with_a_tab(self):
        for text in ("\t", "\tx", "x\t", "x\ty", "# \t", "x # \t", '"\t"', "if x:\n\ty", "if x:\n    y\n\t", "x\n/\n\t",
                     "\n" * 300 + "\t", "\t" * 5000):
            self.refused(text, None)


class Prefixes(Reads):
    """What a row is refused for stands ahead of it: rows behind it change nothing."""

    def spoiled(self, chance, rows):
        rows = list(rows)
        place = chance.randrange(len(rows))
        way = chance.randrange(6)
        if way == 0:
            rows.pop(place)
        elif way == 1:
            rows.insert(place, chance.choice(rows))
        elif way == 2:
            rows[place] = "    " + rows[place]
        elif way == 3:
            rows[place] = rows[place][4:]
        elif way == 4:
            words = rows[place].split(" ")
            words.pop(chance.randrange(len(words)))
            rows[place] = " ".join(words)
        else:
            rows[place] = rows[place].replace(chance.choice(rows[place]), chance.choice("():,.=+ x1"), 1)
        return rows

    def at_of(self, rows):
        try:
            read("\n".join(rows))
        except BadText as error:
            return error.at
        return "read"

    def test_many_spoiled_programs(self):
        met = {}
        for seed in range(1200):
            chance = random.Random(seed)
            rows = shown(Maker(seed, most=14).program()).split("\n")
            for _ in range(chance.randint(1, 2)):
                rows = self.spoiled(chance, rows) or ["x"]
            at = self.at_of(rows)
            met[str(type(at))] = met.get(str(type(at)), 0) + 1
            if at != "read":
                self.assertIn(self.at_of(rows[:at]), ("read", max(at, 1)))
                self.assertEqual(self.at_of(rows[:at + 1]), at)
                self.assertEqual(self.at_of(rows[:at + 1] + ["/"]), at)
        self.assertEqual(len(met), 2)
        self.assertGreater(min(met.values()), 100)


if __name__ == "__main__":
    unittest.main()
