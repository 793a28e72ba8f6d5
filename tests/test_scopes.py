"""Scopes: own names in the text's order, and each refusal by the way to its statement."""
import unittest

from grassnake.errors import BadName, BadRun, BadText
from grassnake.reading import read
from grassnake.scopes import looked, own_names
from making import Maker, without

A = ("name", "a")
PASS = (("pass",),)


def own_of(text):
    """The own names of the def that a text begins with."""
    first = read(text)[0]
    return own_names(first[2], first[3])


class OwnNames(unittest.TestCase):
    def told(self, text, names):
        for _ in range(2):
            answer = own_of(text)
            self.assertEqual(answer, tuple(names.split()), text)
            self.assertIs(type(answer), tuple)

    def test_none(self):
        self.told("def f():\n    pass", "")
        self.told("def f():\n    a\n    b.c\n    d()\n    a.x = b", "")

    def test_params_first(self):
        self.told("def f(b, a):\n    pass", "b a")
        self.told("def f(b, a=c):\n    x = 1\n    a = 2\n    d = b", "b a x d")
        self.told("def f(d, c=1, b=2, a=3):\n    e = 1", "d c b a e")

    def test_what_binds(self):
        self.told("def f():\n    x = y", "x")
        self.told("def f():\n    x += y", "x")
        self.told("def f():\n    def x():\n        pass", "x")
        self.told("def f():\n    class x:\n        pass", "x")
        self.told("def f():\n    for x in y:\n        pass", "x")
        self.told("def f():\n    try:\n        y\n    except z as x:\n        y", "x")
        self.told("def f():\n    x = yield y", "x")

    def test_what_does_not(self):
        self.told("def f():\n    x\n    x.y = 1\n    yield x\n    return x", "")
        self.told("def f():\n    try:\n        x\n    except y:\n        raise z from x", "")
        self.told("def f():\n    while x:\n        y(z)\n    if x:\n        pass", "")

    def test_the_texts_order(self):
        self.told("def f():\n    c = 1\n    a = 1\n    b = 1\n    a = 2", "c a b")
        self.told("def f():\n    if x:\n        d = 1\n    elif y:\n        c = 1\n    else:\n        b = 1\n    a = 1",
                  "d c b a")
        self.told("def f():\n    while x:\n        d = 1\n    else:\n        c = 1\n    a = 1", "d c a")
        self.told("def f():\n    for d in x:\n        c = 1\n    else:\n        b = 1\n    a = 1", "d c b a")
        self.told("def f():\n    try:\n        h = 1\n    except x as g:\n        e = 1\n    except y as d:\n"
                  "        c = 1\n"
                  "    else:\n        b = 1\n    finally:\n        a = 1\n    z = 1", "h g e d c b a z")

    def test_each_once(self):
        self.told("def f(a, b):\n    a = 1\n    c = 1\n    c += 1\n    for b in c:\n        c = yield a", "a b c")

    def test_told_global_or_nonlocal(self):
        self.told("def f():\n    global a\n    nonlocal b, c\n    a = 1\n    b = 2\n    c += 3\n    d = 4", "d")
        self.told("def f(x):\n    if x:\n        global a\n    def a():\n        pass\n    e = 1", "x e")
        self.told("def f():\n    global a, b\n    for a in x:\n        pass\n    try:\n        x\n"
                  "    except y as b:\n        z = 1", "z")
        self.told("def f():\n    nonlocal a\n    a = yield x", "")

    def test_params_that_are_told(self):
        self.told("def f(a, b):\n    global a\n    nonlocal b\n    a = 1\n    b = 1\n    c = 1", "b c")

    def test_nothing_of_defs_and_classes_within(self):
        self.told("def f():\n    def g(a, b=c):\n        d = 1\n    class C(e):\n        h = 1\n        def i():\n"
                  "            j = 1",
                  "g C")
        self.told("def f():\n    def g():\n        global a\n        nonlocal b\n    a = 1\n    b = 1", "g a b")

    def test_a_name_of_a_def_within_that_is_bound_here_too(self):
        self.told("def f():\n    def g():\n        a = 1\n    b = 1\n    a = 2", "g b a")

    def test_nothing_handed_in_is_changed(self):
        params = (("a", None), ("b", A))
        block = read("c = 1\nglobal d\nd = 1")
        kept = (("a", None), ("b", A)), read("c = 1\nglobal d\nd = 1")
        self.assertEqual(own_names(params, block), ("a", "b", "c"))
        self.assertEqual((params, block), kept)

    def test_long_and_deep(self):
        block = tuple(("set", f"n{k}", A) for k in range(600))
        self.assertEqual(own_names((), block), tuple(f"n{k}" for k in range(600)))
        block = ()
        for k in range(599, -1, -1):
            block = (("if", A, (("set", f"n{k}", A),), block),)
        self.assertEqual(own_names((("z", None),), block), ("z",) + tuple(f"n{k}" for k in range(600)))


class Looks(unittest.TestCase):
    def good(self, text):
        for _ in range(2):
            self.assertIsNone(looked(read(text)), text)

    def bad(self, text, *way):
        self.bad_program(read(text), way)

    def bad_program(self, program, way):
        for _ in range(2):
            with self.assertRaises(BadName) as caught:
                looked(program)
            self.assertEqual(caught.exception.at, way)
            self.assertIs(type(caught.exception.at), tuple)
            self.assertNotIsInstance(caught.exception, (BadText, BadRun))


class Returns(Looks):
    def test_in_a_def(self):
        for word in ("return", "return a", "yield a", "x = yield a"):
            self.good(f"def f():\n    {word}")
            self.good(f"def f():\n    while a:\n        {word}")
            self.good(f"class C:\n    def f():\n        {word}")
            self.good(f"def f():\n    class C:\n        def g():\n            {word}")
            self.good(f"def f():\n    try:\n        a\n    finally:\n        {word}")

    def test_outside(self):
        for word in ("return", "return a", "yield a", "x = yield a"):
            self.bad(word, 0)
            self.bad(f"a\nif a:\n    {word}", 1, 0, 0)
            self.bad(f"def f():\n    a\n{word}", 1)

    def test_in_a_house(self):
        for word in ("return", "return a", "yield a", "x = yield a"):
            self.bad(f"class C:\n    {word}", 0, 0, 0)
            self.bad(f"def f():\n    class C:\n        {word}", 0, 0, 0, 0, 0)
            self.bad(f"def f():\n    class C:\n        if a:\n            {word}", 0, 0, 0, 0, 0, 0, 0)
            self.bad(f"def f():\n    class C:\n        class D:\n            {word}", 0, 0, 0, 0, 0, 0, 0)


class Loops(Looks):
    def test_in_a_loop(self):
        for word in ("break", "continue"):
            for head in ("while a:", "for a in b:"):
                self.good(f"{head}\n    {word}")
                self.good(f"def f():\n    {head}\n        {word}")
                self.good(f"class C:\n    {head}\n        {word}")
                self.good(f"{head}\n    if a:\n        a\n    else:\n        {word}")
                self.good(f"{head}\n    try:\n        {word}\n    except:\n        {word}\n    else:\n"
                          f"        {word}\n    finally:\n        a")

    def test_outside(self):
        for word in ("break", "continue"):
            self.bad(word, 0)
            self.bad(f"if a:\n    {word}", 0, 0, 0)
            self.bad(f"def f():\n    {word}", 0, 0, 0)
            self.bad(f"class C:\n    {word}", 0, 0, 0)
            self.bad(f"while a:\n    a\n{word}", 1)

    def test_a_loops_else_is_outside(self):
        for word in ("break", "continue"):
            for head in ("while a:", "for a in b:"):
                self.bad(f"{head}\n    a\nelse:\n    {word}", 0, 1, 0)
                self.good(f"while c:\n    {head}\n        a\n    else:\n        {word}")
                self.bad(f"{head}\n    a\nelse:\n    a\n    if b:\n        {word}", 0, 1, 1, 0, 0)

    def test_defs_and_classes_in_a_loop_are_outside(self):
        for word in ("break", "continue"):
            for head in ("def f():", "class C:"):
                self.bad(f"while a:\n    {head}\n        {word}", 0, 0, 0, 0, 0)
                self.good(f"while a:\n    {head}\n        while b:\n            {word}\n    {word}")

    def test_in_a_finally_within_the_loop(self):
        for word in ("break", "continue"):
            self.bad(f"while a:\n    try:\n        b\n    finally:\n        {word}", 0, 0, 0, 2, 0)
            self.bad(f"while a:\n    try:\n        b\n    finally:\n        if c:\n"
                     f"            {word}", 0, 0, 0, 2, 0, 0, 0)
            self.bad(f"while a:\n    try:\n        b\n    finally:\n        try:\n            {word}\n"
                     f"        except:\n            b",
                     0, 0, 0, 2, 0, 0, 0)
            self.bad(f"while a:\n    try:\n        b\n    finally:\n        while c:\n            d\n        else:\n"
                     f"            {word}",
                     0, 0, 0, 2, 0, 1, 0)

    def test_in_a_loop_within_a_finally(self):
        for word in ("break", "continue"):
            self.good(f"try:\n    a\nfinally:\n    while b:\n        {word}")
            self.good(f"while a:\n    try:\n        b\n    finally:\n        for c in d:\n            {word}")
            self.good(f"try:\n    a\nfinally:\n    while b:\n        while c:\n            d\n        else:\n"
                      f"            {word}")


class Raises(Looks):
    def test_in_a_catch(self):
        self.good("try:\n    a\nexcept:\n    raise")
        self.good("try:\n    a\nexcept b:\n    raise\nexcept c as d:\n    raise")
        self.good("try:\n    a\nexcept:\n    if b:\n        while c:\n            raise")
        self.good("def f():\n    try:\n        a\n    except:\n        raise")
        self.good("class C:\n    try:\n        a\n    except:\n        raise")
        self.good("try:\n    a\nexcept:\n    try:\n        raise\n    finally:\n        raise")
        self.good("try:\n    a\nexcept:\n    try:\n        b\n    except:\n        c\n    else:\n        raise\n"
                  "    raise")

    def test_outside(self):
        self.bad("raise", 0)
        self.bad("def f():\n    raise", 0, 0, 0)
        self.bad("class C:\n    raise", 0, 0, 0)
        self.bad("try:\n    raise\nexcept:\n    a", 0, 0, 0)
        self.bad("try:\n    a\nexcept:\n    b\nelse:\n    raise", 0, 2, 0)
        self.bad("try:\n    a\nexcept:\n    b\nfinally:\n    raise", 0, 3, 0)
        self.bad("try:\n    a\nexcept:\n    raise\nraise", 1)
        self.bad("while a:\n    raise", 0, 0, 0)

    def test_defs_and_classes_in_a_catch_are_outside(self):
        self.bad("try:\n    a\nexcept:\n    def f():\n        raise", 0, 1, 0, 0, 0)
        self.bad("try:\n    a\nexcept:\n    class C:\n        raise", 0, 1, 0, 0, 0)

    def test_not_a_bare_one(self):
        self.good("raise a")
        self.good("raise a from b")
        self.good("def f():\n    raise None")


class Tells(Looks):
    def test_in_a_def(self):
        self.good("def f():\n    global a")
        self.good("def f():\n    global a, b\n    a = b")
        self.good("def f():\n    a = 1\n    def g():\n        nonlocal a\n        a = 2")
        self.good("class C:\n    def f():\n        global a")

    def test_in_the_program_or_a_house(self):
        for word in ("global", "nonlocal"):
            self.bad(f"{word} a", 0)
            self.bad(f"b\nif b:\n    {word} a", 1, 0, 0)
            self.bad(f"class C:\n    {word} a", 0, 0, 0)
            self.bad(f"def f():\n    a = 1\n    class C:\n        {word} a", 0, 0, 1, 0, 0)

    def test_of_a_param(self):
        outer = "def e():\n    a = 1\n    b = 1\n    def f(a, c=1):\n        {}"
        for word in ("global", "nonlocal"):
            self.bad(outer.format(f"{word} a"), 0, 0, 2, 0, 0)
            self.bad(outer.format(f"{word} b, a"), 0, 0, 2, 0, 0)
            self.bad(outer.format(f"if b:\n            {word} a"), 0, 0, 2, 0, 0, 0, 0)
            self.good(outer.format(f"{word} b"))
        self.bad("def f(a, b=1):\n    global b", 0, 0, 0)

    def test_told_twice(self):
        outer = "def e():\n    a = 1\n    b = 1\n    def f():\n        {}\n        {}"
        for first in ("global", "nonlocal"):
            self.bad(outer.format(f"{first} a, a", "pass"), 0, 0, 2, 0, 0)
            self.bad(outer.format(f"{first} a, b, a", "pass"), 0, 0, 2, 0, 0)
            for second in ("global", "nonlocal"):
                self.bad(outer.format(f"{first} a", f"{second} a"), 0, 0, 2, 0, 1)
                self.bad(outer.format(f"{first} a", f"{second} b, a"), 0, 0, 2, 0, 1)
                self.good(outer.format(f"{first} a", f"{second} b"))
        self.good("def f():\n    global a\n    def g():\n        global a")
        self.bad("def f():\n    if b:\n        global a\n    else:\n        global a", 0, 0, 0, 1, 0)

    def test_a_name_that_stands_ahead(self):
        rows = ("a", "a = 1", "x = a", "b(a)", "b.c(d, -a)", "a += 1", "x += a", "a.b = 1", "b.c = a", "x = not a",
                "x = b and a", "a()", "a(b)", "x = a.b(c)", "x = b or a < c", "yield a", "a = yield b", "return a",
                "raise a", "raise b from a",
                "x = (a)", "x = a.b.c")
        for row in rows:
            self.bad(f"def f():\n    {row}\n    global a", 0, 0, 1)
            self.bad(f"def e():\n    a = 1\n    def f():\n        {row}\n        nonlocal a", 0, 0, 1, 0, 1)
            self.good(f"def f():\n    global a\n    {row}")
            self.good(f"def e():\n    a = 1\n    def f():\n        nonlocal a\n        {row}")

    def test_a_name_that_stands_in_a_head_ahead(self):
        for head in ("if a:", "while a:", "for a in b:", "for b in a:"):
            self.bad(f"def f():\n    {head}\n        global a", 0, 0, 0, 0, 0)
            self.good(f"def f():\n    global a\n    {head}\n        pass")
        self.bad("def f():\n    if b:\n        c\n    elif a:\n        global a", 0, 0, 0, 1, 0, 0, 0)
        self.bad("def f():\n    if b:\n        a\n    else:\n        global a", 0, 0, 0, 1, 0)
        self.good("def f():\n    if b:\n        global a\n    elif a:\n        a")
        self.good("def f():\n    while b:\n        global a\n    else:\n        a")
        self.bad("def f():\n    while b:\n        c\n        a\n    else:\n        global a", 0, 0, 0, 1, 0)

    def test_a_name_that_stands_in_a_try_ahead(self):
        for head in ("except a:", "except a as b:", "except b as a:"):
            self.bad(f"def f():\n    try:\n        b\n    {head}\n        global a", 0, 0, 0, 1, 0)
            self.bad(f"def f():\n    try:\n        b\n    {head}\n        b\n    finally:\n"
                     f"        global a", 0, 0, 0, 3, 0)
            self.good(f"def f():\n    try:\n        global a\n    {head}\n        b")
            self.good(f"def f():\n    try:\n        b\n    except c:\n        global a\n    {head}\n        b")
        self.bad("def f():\n    try:\n        a\n    except:\n        global a", 0, 0, 0, 1, 0)
        self.bad("def f():\n    try:\n        b\n    except:\n        a\n    else:\n        global a", 0, 0, 0, 2, 0)
        self.good("def f():\n    try:\n        b\n    except:\n        c\n    else:\n        global a\n"
                  "    finally:\n        a")

    def test_defs_and_classes_ahead(self):
        self.bad("def f():\n    def a():\n        pass\n    global a", 0, 0, 1)
        self.bad("def f():\n    class a:\n        pass\n    global a", 0, 0, 1)
        self.bad("def f():\n    def g(b=a):\n        pass\n    global a", 0, 0, 1)
        self.bad("def f():\n    def g(b, c=1, d=x(a)):\n        pass\n    global a", 0, 0, 1)
        self.bad("def f():\n    class C(a):\n        pass\n    global a", 0, 0, 1)
        self.bad("def f():\n    class C(b, a.c):\n        pass\n    global a", 0, 0, 1)
        self.good("def f():\n    def g(a):\n        pass\n    global a")
        self.good("def f():\n    def g(a=b):\n        a\n    global a")
        self.good("def f():\n    def g():\n        a = 1\n        return a\n    global a")
        self.good("def f():\n    class C:\n        a = 1\n        b = a\n        def g(c=a):\n            a\n"
                  "    global a")

    def test_what_does_not_stand_in_this_defs_text(self):
        self.good("a = 1\ndef f():\n    global a")
        self.good("def f(b=a):\n    global a")
        self.good("def a():\n    global a")
        self.good("def e():\n    a = 1\n    def f():\n        global a")
        self.good("def f():\n    b.a\n    b.a = 1\n    global a")
        self.good('def f():\n    "a"\n    global a')

    def test_nonlocal_that_means_no_defs(self):
        self.bad("def f():\n    nonlocal a", 0, 0, 0)
        self.bad("a = 1\ndef f():\n    nonlocal a\n    a = 1", 1, 0, 0)
        self.bad("def f():\n    nonlocal say", 0, 0, 0)
        self.bad("def f():\n    a\n    def g():\n        nonlocal a", 0, 0, 1, 0, 0)
        self.bad("class C:\n    a = 1\n    def f():\n        nonlocal a", 0, 0, 1, 0, 0)
        self.bad("def f():\n    class C:\n        a = 1\n        def g():\n            nonlocal a", 0, 0, 0, 0, 1, 0, 0)
        self.bad("def f():\n    global a\n    def g():\n        nonlocal a", 0, 0, 1, 0, 0)
        self.bad("def e():\n    a = 1\n    def f():\n        global a\n        def g():\n            nonlocal a", 0, 0,
                 1, 0, 1, 0, 0)
        self.bad("def f():\n    def g():\n        a = 1\n    def h():\n        nonlocal a", 0, 0, 1, 0, 0)
        self.bad("def f():\n    a = 1\n    def g():\n        nonlocal a, b", 0, 0, 1, 0, 0)

    def test_nonlocal_that_means_a_defs(self):
        self.good("def f(a):\n    def g():\n        nonlocal a")
        self.good("def f():\n    def g():\n        nonlocal a\n    a = 1")
        self.good("def f():\n    a = 1\n    class C:\n        a = 2\n        def g():\n            nonlocal a")
        self.good("def e(a):\n    def f():\n        def g():\n            nonlocal a")
        self.good("def e(a):\n    def f():\n        nonlocal a\n        def g():\n            nonlocal a")
        self.good("def f():\n    def g():\n        nonlocal g")
        self.good("def f():\n    for a in b:\n        pass\n    def g():\n        nonlocal a")
        self.good("def f():\n    try:\n        b\n    except c as a:\n        b\n    def g():\n        nonlocal a")
        self.good("def f():\n    a = yield b\n    def g():\n        nonlocal a")
        self.good("def f():\n    class a:\n        def g():\n            nonlocal a")
        self.good("def f():\n    a += 1\n    def g():\n        nonlocal a")

    def test_params_that_are_told_wrongly_further_on(self):
        inner = "    def g():\n        nonlocal a\n"
        self.bad("def f(a):\n" + inner + "    global a", 0, 0, 0, 0, 0)
        self.bad("def f(a):\n" + inner + "    nonlocal a", 0, 0, 1)
        self.bad("def e():\n    a = 1\n    def f(a):\n        def g():\n            nonlocal a\n        global a", 0,
                 0, 1, 0, 0, 0, 0)
        self.bad("def e():\n    a = 1\n    def f():\n        def g():\n            nonlocal a\n        nonlocal a\n"
                 "        global a",
                 0, 0, 1, 0, 0, 0, 0)


class Params(Looks):
    def test_two_of_one_name(self):
        self.bad("def f(a, a):\n    pass", 0)
        self.bad("def f(a, b, a):\n    pass", 0)
        self.bad("def f(a, b, c=1, b=2):\n    pass", 0)
        self.bad("b\nclass C:\n    def f(a, a=1):\n        pass", 1, 0, 0)
        self.good("def f(a, b, c, d):\n    pass")
        self.good("def a(a):\n    pass")
        self.good("def f(a):\n    def g(a):\n        pass")


class Ways(Looks):
    def test_the_place_in_the_program(self):
        self.bad("a\nb\nbreak", 2)
        self.bad("break\nbreak", 0)

    def test_each_block_of_each_statement(self):
        for head in ("if a:", "while a:", "for a in b:"):
            self.bad(f"a\n{head}\n    a\n    return\nelse:\n    return", 1, 0, 1)
            self.bad(f"a\n{head}\n    a\nelse:\n    a\n    b\n    return", 1, 1, 2)
        self.bad("def f():\n    a\n    break", 0, 0, 1)
        self.bad("class f:\n    a\n    break", 0, 0, 1)

    def test_elifs(self):
        self.bad("if a:\n    b\nelif c:\n    d\n    return", 0, 1, 0, 0, 1)
        self.bad("if a:\n    b\nelif c:\n    d\nelif c:\n    d\nelse:\n    return", 0, 1, 0, 1, 0, 1, 0)

    def test_a_try(self):
        parts = ["try:\n    a", "except a:\n    a", "except b:\n    a", "except:\n    a", "else:\n    a",
                 "finally:\n    a"]
        for number in range(6):
            text = "\n".join(part + "\n    return" * (place == number) for place, part in enumerate(parts))
            self.bad("a\n" + text, 1, number, 1)

    def test_a_trys_else_has_its_number_also_where_it_is_not_there(self):
        self.bad("try:\n    a\nfinally:\n    return", 0, 2, 0)
        self.bad("try:\n    a\nexcept:\n    b\nfinally:\n    return", 0, 3, 0)
        self.bad("try:\n    a\nexcept b:\n    b\nexcept:\n    c\nfinally:\n    a\n    return", 0, 4, 1)

    def test_the_first_of_two(self):
        self.bad("if a:\n    return\nreturn", 0, 0, 0)
        self.bad("if a:\n    b\nelse:\n    return\nreturn", 0, 1, 0)
        self.bad("def f(a, a):\n    break", 0)
        self.bad("def f(a):\n    break\ndef g(a, a):\n    pass", 0, 0, 0)
        self.bad("try:\n    a\nexcept:\n    b\n    break\nfinally:\n    return", 0, 1, 1)
        self.bad("class C:\n    def f():\n        def g(a, a):\n            return\n        break\n    return", 0, 0,
                 0, 0, 0)

    def test_deep_ways(self):
        program = (("return", None),)
        for _ in range(300):
            program = (("pass",), ("if", A, PASS, program))
        self.bad_program(program, (1, 1) * 300 + (0,))
        program = (("break",),)
        for _ in range(200):
            program = (("def", "f", (), program),)
        self.bad_program(program, (0,) * 401)

    def test_600_statements(self):
        self.assertIsNone(looked((("do", A),) * 600))
        self.bad_program((("do", A),) * 599 + (("break",),), (599,))
        chain = ()
        for _ in range(600):
            chain = (("if", A, PASS, chain),)
        self.assertIsNone(looked(chain))

    def test_no_statements(self):
        self.good("")


class Many(Looks):
    """The first statement that is wrong is told: with another in its place, what is told is another one, or none."""

    def way_of(self, program):
        try:
            self.assertIsNone(looked(program))
        except BadName as error:
            return error.at
        return None

    def test_what_is_wrong_is_mended_in_turn(self):
        for seed in range(300):
            program = Maker(seed, names=("a", "b", "c", "d"), most=25).program()
            way = self.way_of(program)
            turns = 0
            while way is not None:
                program = without(program, way)
                further = self.way_of(program)
                self.assertNotEqual(further, way)
                way = further
                turns += 1
                self.assertLess(turns, 200)


if __name__ == "__main__":
    unittest.main()
