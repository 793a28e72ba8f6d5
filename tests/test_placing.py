"""Placing: what each name that is read or bound means, by slots, the program's names and houses' fields."""
import unittest

from grassnake.errors import BadName
from grassnake.placing import placed
from grassnake.reading import read
from grassnake.scopes import looked, own_names
from making import Maker, without

ONE = ("number", 1)
A = ("name", "a")
PASS = (("pass",),)


def of_program(name):
    return ("program", name)


def slot(out, place):
    return ("slot", out, place)


class Places(unittest.TestCase):
    def told(self, text, wanted):
        program = read(text)
        self.assertIsNone(looked(program))
        for _ in range(2):
            self.assertEqual(placed(program), wanted, text)
        self.assertEqual(program, read(text))

    def def_told(self, text, slots, gives, block):
        """Of a program that is a def f without params."""
        self.told(text, (("def", of_program("f"), "f", (), 0, slots, gives, block),))


class Program(Places):
    def test_no_statements(self):
        self.told("", ())

    def test_each_statement(self):
        a, b, x = of_program("a"), of_program("b"), of_program("x")
        for text, wanted in (
                ("a", ("do", a)), ("x = a", ("set", x, a)), ("a.x = b", ("put", a, "x", b)),
                ("x += a", ("more", x, x, "+", a)), ("x *= 1", ("more", x, x, "*", ONE)), ("pass", ("pass",)),
                ("raise a", ("raise", a, None)), ("raise a from b", ("raise", a, b)),
                ("while a:\n    break", ("while", a, (("break",),), ())),
                ("while a:\n    continue\nelse:\n    b", ("while", a, (("continue",),), (("do", b),))),
                ("for x in a:\n    b", ("for", x, a, (("do", b),), ())),
                ("for x in a:\n    b\nelse:\n    a", ("for", x, a, (("do", b),), (("do", a),))),
                ("if a:\n    b", ("if", a, (("do", b),), ())),
                ("if a:\n    b\nelif b:\n    a", ("if", a, (("do", b),), (("if", b, (("do", a),), ()),))),
                ("class x:\n    pass", ("class", x, "x", (), PASS)),
                ("class x(a, b):\n    pass", ("class", x, "x", (a, b), PASS)),
                ("def x():\n    pass", ("def", x, "x", (), 0, 0, False, PASS))):
            self.told(text, (wanted,))

    def test_a_try(self):
        a, b, x = of_program("a"), of_program("b"), of_program("x")
        self.told("try:\n    a\nexcept b as x:\n    raise\nexcept a:\n    b\nexcept:\n    pass\nelse:\n    b\n"
                  "finally:\n    x",
                  (("try", (("do", a),), ((b, x, (("raise", None, None),)), (a, None, (("do", b),)),
                                          (None, None, PASS)),
                    (("do", b),), (("do", x),)),))
        self.told("try:\n    a\nfinally:\n    b", (("try", (("do", a),), (), (), (("do", b),)),))
        self.told("try:\n    a\nexcept:\n    b", (("try", (("do", a),), ((None, None, (("do", b),)),), (), None),))

    def test_each_expression(self):
        a, b = of_program("a"), of_program("b")
        for text, wanted in (
                ("1", ONE), ('"a"', ("text", "a")), ("True", ("truth", True)), ("None", ("none",)), ("a", a),
                ("a or b", ("both", "or", a, b)), ("not a", ("not", a)), ("a < b", ("two", "<", a, b)),
                ("-a", ("minus", a)), ("a()", ("call", a, ())), ("a(b, 1)", ("call", a, (b, ONE))),
                ("a.b", ("field", a, "b")), ("-a.b(not b).a",
                                             ("minus", ("field", ("call", ("field", a, "b"), (("not", b),)), "a")))):
            self.told(text, (("do", wanted),))

    def test_given_names_are_as_the_programs(self):
        self.told("say(Fault)", (("do", ("call", of_program("say"), (of_program("Fault"),))),))


class Slots(Places):
    def test_own_names(self):
        self.def_told("def f():\n    a = 1\n    b = a\n    a += b", 2, False,
                      (("set", slot(0, 0), ONE), ("set", slot(0, 1), slot(0, 0)),
                       ("more", slot(0, 0), slot(0, 0), "+", slot(0, 1))))

    def test_names_that_are_bound_further_on(self):
        self.def_told("def f():\n    a\n    b = a\n    a = b", 2, False,
                      (("do", slot(0, 1)), ("set", slot(0, 0), slot(0, 1)), ("set", slot(0, 1), slot(0, 0))))

    def test_params(self):
        self.told("def f(a, b):\n    c = b\n    return a",
                  (("def", of_program("f"), "f", (), 2, 3, False,
                    (("set", slot(0, 2), slot(0, 1)), ("return", slot(0, 0)))),))

    def test_each_that_binds(self):
        self.def_told("def f():\n    for a in b:\n        c = yield a\n    try:\n        d()\n    except e as g:\n"
                      "        g\n"
                      "    def d():\n        pass\n    class h(a):\n        pass\n    return", 5, True,
                      (("for", slot(0, 0), of_program("b"), (("yield", slot(0, 1), slot(0, 0)),), ()),
                       ("try", (("do", ("call", slot(0, 3), ())),),
                        ((of_program("e"), slot(0, 2), (("do", slot(0, 2)),)),), (), None),
                       ("def", slot(0, 3), "d", (), 0, 0, False, PASS),
                       ("class", slot(0, 4), "h", (slot(0, 0),), PASS), ("return", None)))

    def test_defs_outwards(self):
        self.def_told("def f():\n    a = 1\n    b = 1\n    def g():\n        c = b\n        def h():\n"
                      "            return a(b, c, h, g(f))",
                      3, False,
                      (("set", slot(0, 0), ONE), ("set", slot(0, 1), ONE),
                       ("def", slot(0, 2), "g", (), 0, 2, False,
                        (("set", slot(0, 0), slot(1, 1)),
                         ("def", slot(0, 1), "h", (), 0, 0, False,
                          (("return", ("call", slot(2, 0), (slot(2, 1), slot(1, 0), slot(1, 1),
                                                            ("call", slot(2, 2), (of_program("f"),))))),))))))

    def test_the_innermost_counts(self):
        self.def_told("def f():\n    a = 1\n    def g(a):\n        return a\n    return a", 2, False,
                      (("set", slot(0, 0), ONE), ("def", slot(0, 1), "g", (), 1, 1, False, (("return", slot(0, 0)),)),
                       ("return", slot(0, 0))))

    def test_nonlocal(self):
        self.def_told("def f():\n    a = 1\n    def g():\n        nonlocal a\n        a = a\n        b = a\n"
                      "        a += 1", 2, False,
                      (("set", slot(0, 0), ONE),
                       ("def", slot(0, 1), "g", (), 0, 1, False,
                        (("pass",), ("set", slot(1, 0), slot(1, 0)), ("set", slot(0, 0), slot(1, 0)),
                         ("more", slot(1, 0), slot(1, 0), "+", ONE)))))

    def test_nonlocal_over_several_defs(self):
        self.told("def f(a):\n    def g():\n        def h():\n            nonlocal a\n            a = yield a",
                  (("def", of_program("f"), "f", (), 1, 2, False,
                    (("def", slot(0, 1), "g", (), 0, 1, False,
                      (("def", slot(0, 0), "h", (), 0, 0, True, (("pass",), ("yield", slot(2, 0), slot(2, 0)))),)),)),))
        self.told("def f(a):\n    def g():\n        nonlocal a\n        def h():\n            nonlocal a\n"
                  "            a = 1\n        a = 1",
                  (("def", of_program("f"), "f", (), 1, 2, False,
                    (("def", slot(0, 1), "g", (), 0, 1, False,
                      (("pass",), ("def", slot(0, 0), "h", (), 0, 0, False, (("pass",), ("set", slot(2, 0), ONE))),
                       ("set", slot(1, 0), ONE))),)),))

    def test_global(self):
        self.def_told("def f():\n    global a, b\n    a = b\n    c = a\n    a += 1", 1, False,
                      (("pass",), ("set", of_program("a"), of_program("b")), ("set", slot(0, 0), of_program("a")),
                       ("more", of_program("a"), of_program("a"), "+", ONE)))

    def test_a_def_that_tells_global_ends_the_search(self):
        self.told("def f(a):\n    def g():\n        global a\n        def h():\n            return a\n"
                  "        class C:\n            b = a",
                  (("def", of_program("f"), "f", (), 1, 2, False,
                    (("def", slot(0, 1), "g", (), 0, 2, False,
                      (("pass",), ("def", slot(0, 0), "h", (), 0, 0, False, (("return", of_program("a")),)),
                       ("class", slot(0, 1), "C", (), (("set", ("house", "b"), of_program("a")),)))),)),))

    def test_a_global_that_is_bound_within_is_own_there(self):
        self.def_told("def f():\n    global a\n    def g():\n        a = 1\n        return a", 1, False,
                      (("pass",), ("def", slot(0, 0), "g", (), 0, 1, False,
                                   (("set", slot(0, 0), ONE), ("return", slot(0, 0))))))


class Defs(Places):
    def test_defaults_are_of_the_last_params(self):
        self.told("def f(a, b=1, c=d):\n    e = a",
                  (("def", of_program("f"), "f", (ONE, of_program("d")), 3, 4, False,
                    (("set", slot(0, 3), slot(0, 0)),)),))
        self.told("def f(a=a):\n    pass", (("def", of_program("f"), "f", (of_program("a"),), 1, 1, False, PASS),))

    def test_defaults_are_read_outside(self):
        self.def_told("def f():\n    a = 1\n    def g(a=a, b=a + c):\n        return a", 2, False,
                      (("set", slot(0, 0), ONE),
                       ("def", slot(0, 1), "g", (slot(0, 0), ("two", "+", slot(0, 0), of_program("c"))), 2, 2, False,
                        (("return", slot(0, 0)),))))

    def test_elders_are_read_outside(self):
        self.def_told("def f():\n    a = 1\n    class C(a):\n        a = 2\n        class D(a):\n"
                      "            pass", 2, False,
                      (("set", slot(0, 0), ONE),
                       ("class", slot(0, 1), "C", (slot(0, 0),),
                        (("set", ("house", "a"), ("number", 2)),
                         ("class", ("house", "D"), "D", (("house", "a", slot(0, 0)),), PASS)))))

    def test_which_defs_give(self):
        for block, gives in (("yield a", True), ("x = yield a", True), ("pass", False), ("return a", False),
                             ("while a:\n        yield b", True), ("while a:\n        b\n    else:\n"
                                                                   "        yield b", True),
                             ("for c in a:\n        yield b", True), ("for c in a:\n        b\n    else:\n"
                                                                      "        yield b", True),
                             ("if a:\n        b\n    elif c:\n        b\n    else:\n        yield b", True),
                             ("try:\n        yield a\n    finally:\n        b", True),
                             ("try:\n        a\n    except:\n        yield b", True),
                             ("try:\n        a\n    except:\n        b\n    else:\n        yield b", True),
                             ("try:\n        a\n    finally:\n        yield b", True),
                             ("def g():\n        yield a", False),
                             ("class C:\n        def g():\n            yield a", False),
                             ("def g():\n        yield a\n    yield b", True)):
            told = placed(read(f"def f():\n    {block}"))[0]
            self.assertIs(told[6], gives, block)

    def test_a_def_within_gives_for_itself(self):
        told = placed(read("def f():\n    def g():\n        yield a"))[0]
        self.assertIs(told[6], False)
        self.assertIs(told[7][0][6], True)


class Houses(Places):
    def test_own_names(self):
        x = ("house", "x", of_program("x"))
        self.told("class C:\n    x = 1\n    y = x\n    x += y",
                  (("class", of_program("C"), "C", (),
                    (("set", ("house", "x"), ONE), ("set", ("house", "y"), x),
                     ("more", x, ("house", "x"), "+", ("house", "y", of_program("y"))))),))

    def test_names_that_are_bound_further_on(self):
        self.told("class C:\n    x\n    x = 1",
                  (("class", of_program("C"), "C", (), (("do", ("house", "x", of_program("x"))),
                                                        ("set", ("house", "x"), ONE))),))

    def test_each_that_binds(self):
        self.told("class C:\n    for a in b:\n        pass\n    try:\n        b\n    except c as d:\n        d\n"
                  "    def e(g=a):\n        pass\n"
                  "    class h:\n        pass",
                  (("class", of_program("C"), "C", (),
                    (("for", ("house", "a"), of_program("b"), PASS, ()),
                     ("try", (("do", of_program("b")),),
                      ((of_program("c"), ("house", "d"), (("do", ("house", "d", of_program("d"))),)),), (), None),
                     ("def", ("house", "e"), "e", (("house", "a", of_program("a")),), 1, 1, False, PASS),
                     ("class", ("house", "h"), "h", (), PASS))),))

    def test_what_an_own_name_means_else(self):
        self.def_told("def f():\n    a = 1\n    class C:\n        a = a\n        b = a", 2, False,
                      (("set", slot(0, 0), ONE),
                       ("class", slot(0, 1), "C", (),
                        (("set", ("house", "a"), ("house", "a", slot(0, 0))),
                         ("set", ("house", "b"), ("house", "a", slot(0, 0)))))))

    def test_houses_are_passed_over(self):
        self.def_told("def f():\n    a = 1\n    class C:\n        a = 2\n        def g():\n            return a\n"
                      "        class D:\n            b = a",
                      2, False,
                      (("set", slot(0, 0), ONE),
                       ("class", slot(0, 1), "C", (),
                        (("set", ("house", "a"), ("number", 2)),
                         ("def", ("house", "g"), "g", (), 0, 0, False, (("return", slot(1, 0)),)),
                         ("class", ("house", "D"), "D", (), (("set", ("house", "b"), slot(0, 0)),))))))
        self.told("class C:\n    a = 1\n    def g():\n        return a",
                  (("class", of_program("C"), "C", (),
                    (("set", ("house", "a"), ONE), ("def", ("house", "g"), "g", (), 0, 0, False,
                                                    (("return", of_program("a")),)))),))

    def test_houses_are_not_counted_outwards(self):
        self.told("def f(a):\n    class C:\n        class D:\n            def g(b):\n                class E:\n"
                  "                    c = a(b)",
                  (("def", of_program("f"), "f", (), 1, 2, False,
                    (("class", slot(0, 1), "C", (),
                      (("class", ("house", "D"), "D", (),
                        (("def", ("house", "g"), "g", (), 1, 2, False,
                          (("class", slot(0, 1), "E", (), (("set", ("house", "c"),
                                                            ("call", slot(1, 0), (slot(0, 0),))),)),)),)),)),)),))

    def test_nonlocal_in_a_method(self):
        self.told("def f(a):\n    class C:\n        a = a\n        def g():\n            nonlocal a\n            a = 1",
                  (("def", of_program("f"), "f", (), 1, 2, False,
                    (("class", slot(0, 1), "C", (),
                      (("set", ("house", "a"), ("house", "a", slot(0, 0))),
                       ("def", ("house", "g"), "g", (), 0, 0, False, (("pass",), ("set", slot(1, 0), ONE))))),)),))

    def test_blocks_of_a_house(self):
        self.told("class C:\n    if a:\n        b = 1\n    else:\n        b",
                  (("class", of_program("C"), "C", (),
                    (("if", of_program("a"), (("set", ("house", "b"), ONE),),
                      (("do", ("house", "b", of_program("b"))),)),)),))


class Many(Places):
    def names_of(self, tree):
        if isinstance(tree, tuple):
            if tree[:1] == ("name",):
                yield tree
            for part in tree:
                yield from self.names_of(part)

    def slots_of(self, tree):
        if isinstance(tree, tuple):
            if tree[:1] == ("slot",):
                yield tree
            for part in tree:
                yield from self.slots_of(part)

    def mended(self, program):
        """With pass in the place of what is wrong, so that every program is let by."""
        while True:
            try:
                looked(program)
            except BadName as error:
                program = without(program, error.at)
            else:
                return program

    def test_nothing_is_left_unplaced(self):
        met = 0
        for seed in range(400):
            program = self.mended(Maker(seed, names=("a", "b", "c", "x"), most=40).program())
            wanted = placed(program)
            self.assertEqual(placed(program), wanted)
            self.assertEqual(list(self.names_of(wanted)), [])
            self.assertEqual(len(wanted), len(program))
            met += len(list(self.slots_of(wanted)))
            for statement, told in zip(program, wanted):
                if statement[0] == "def":
                    self.assertEqual(told[4:6], (len(statement[2]), len(own_names(statement[2], statement[3]))))
        self.assertGreater(met, 2000)

    def test_600_statements(self):
        program = (("set", "a", A),) * 600
        self.assertEqual(placed(program), (("set", of_program("a"), of_program("a")),) * 600)
        block = tuple(("set", f"n{k}", A) for k in range(599))
        told = placed((("def", "f", (("a", None),), block),))[0]
        self.assertEqual(told[:7], ("def", of_program("f"), "f", (), 1, 600, False))
        self.assertEqual(told[7], tuple(("set", slot(0, k + 1), slot(0, 0)) for k in range(599)))

    def test_long_chains(self):
        program = ()
        for _ in range(600):
            program = (("if", A, PASS, program),)
        told = placed(program)
        for _ in range(600):
            self.assertEqual(told[0][:3], ("if", of_program("a"), PASS))
            told = told[0][3]
        self.assertEqual(told, ())

    def test_deep_defs(self):
        program = (("do", A),)
        for _ in range(300):
            program = (("def", "f", (), program),)
        told = placed((("def", "f", (("a", None),), program),))
        for _ in range(301):
            told = told[0][7]
        self.assertEqual(told, (("do", slot(300, 0)),))


if __name__ == "__main__":
    unittest.main()
