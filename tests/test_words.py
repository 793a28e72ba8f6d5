"""Words, indents and rows, each by itself."""
import unittest

from grassnake.words import indent_of, is_name, rows_of, words_of

TOLD = (
    "and as break class continue def elif else except False finally for from global if in None nonlocal not or pass "
    "raise return True try while yield"
).split()
MARKS = "+ - * // & | < <= > >= == != = += -= *= ( ) , . :".split()
NO_MARKS = "/ ! ; ? @ [ ] { } $ ^ ~ ' ` \\".split()
LETTERS = "abcdefghijklmnopqrstuvwxyzABCDEFGHIJKLMNOPQRSTUVWXYZ"


def marks(text):
    return [("mark", mark) for mark in text.split()]


def names(text):
    return [("name", name) for name in text.split()]


class Names(unittest.TestCase):
    def good(self, thing):
        self.assertIs(is_name(thing), True, repr(thing))

    def bad(self, thing):
        self.assertIs(is_name(thing), False, repr(thing))

    def test_ordinary_names(self):
        for name in ("x", "Z", "snake", "Snake_2", "a1", "a_", "a__b", "x0", "UPPER"):
            self.good(name)

    def test_every_letter_may_begin_and_follow(self):
        for letter in LETTERS:
            self.good(letter)
            self.good("x" + letter)

    def test_every_figure_may_follow_and_not_begin(self):
        for figure in "0123456789":
            self.good("a" + figure)
            self.bad(figure)
            self.bad(figure + "a")

    def test_how_long(self):
        self.good("a")
        self.good("a" * 12)
        self.good("a_1b_2c_3d_4")
        self.bad("a" * 13)
        self.bad("a" * 5000)
        self.bad("")

    def test_underscore_does_not_begin(self):
        for name in ("_", "_a", "__", "_1"):
            self.bad(name)

    def test_told_words_are_no_names(self):
        for word in TOLD:
            self.bad(word)

    def test_told_words_with_a_sign_more_are_names(self):
        for word in TOLD:
            for name in (word + "x", word + "_", word + "1", "x" + word):
                self.good(name)

    def test_told_words_of_other_case_are_names(self):
        for name in ("true", "false", "none", "If", "AND", "TRUE"):
            self.good(name)

    def test_given_words_of_the_world_are_names(self):
        for name in ("say", "take", "Thing", "Fault", "UnboundFault", "import", "is", "del", "lambda", "with"):
            self.good(name)

    def test_other_signs(self):
        for sign in " !\"#$&'()*+,-./:;<=>?@[\\]^`{|}~\n\t":
            self.bad("a" + sign)
            self.bad(sign + "a")
            self.bad("a" + sign + "b")
            self.bad(sign)

    def test_letters_and_figures_from_elsewhere(self):
        for sign in ("\u00e9", "\u00df", "\u0431", "\u0661", "\u00b2"):
            self.bad(sign)
            self.bad("a" + sign)

    def test_what_is_no_text(self):
        for thing in (0, 1, -1, 10 ** 40, True, False, None, 1.5, [], ["a"], (), ("a",), {}, {"a": "a"}, b"a", {"a"},
                      object(), str, is_name):
            self.bad(thing)

    def test_what_is_handed_in_stays(self):
        things = (["a", "b"], {"a": ["b"]})
        self.bad(things[0])
        self.bad(things[1])
        self.assertEqual(things, (["a", "b"], {"a": ["b"]}))

    def test_asked_twice(self):
        for _ in range(2):
            self.good("abc")
            self.bad("def")
            self.bad([])


class Words(unittest.TestCase):
    def told(self, row, words):
        answer = words_of(row)
        self.assertEqual(answer, words, repr(row))
        self.assertIsInstance(answer, list)
        for word in answer:
            self.assertIsInstance(word, tuple)
            self.assertEqual(len(word), 2)
            self.assertIs(type(word[1]), int if word[0] == "number" else str)

    def none(self, row):
        self.assertIsNone(words_of(row), repr(row))

    def test_each_kind(self):
        self.told('if x2 == 30: say("hi")', [
            ("told", "if"), ("name", "x2"), ("mark", "=="), ("number", 30), ("mark", ":"),
            ("name", "say"), ("mark", "("), ("text", "hi"), ("mark", ")")])

    def test_rows_without_words(self):
        for row in ("", " ", "   ", " " * 60, "#", "# x", "   # / ! 007", "##", '# "', "#\""):
            self.told(row, [])

    def test_names(self):
        for name in ("a", "Z", "a" * 12, "a_1", "A__", "import", "true"):
            self.told(name, [("name", name)])

    def test_names_that_are_none(self):
        for piece in ("a" * 13, "_", "_a", "__init__", "a" * 12 + "_", "a" * 12 + "1"):
            self.none(piece)
            self.none("x = " + piece)
            self.none(piece + " = x")

    def test_told_words(self):
        for word in TOLD:
            self.told(word, [("told", word)])
            self.told(word + "x", [("name", word + "x")])
            self.told(word + "_", [("name", word + "_")])
            self.told(word + "1", [("name", word + "1")])
            self.told(f" {word}  {word} ", [("told", word), ("told", word)])

    def test_told_words_side_by_side(self):
        self.told("not in", [("told", "not"), ("told", "in")])
        self.told("notin", [("name", "notin")])
        self.told("True False None", [("told", "True"), ("told", "False"), ("told", "None")])

    def test_numbers(self):
        for figures in ("0", "1", "9", "10", "100", "1234567890", "123456789012", "999999999999", "100000000000"):
            self.told(figures, [("number", int(figures))])

    def test_numbers_that_are_none(self):
        for piece in ("1234567890123", "1" * 20, "1" * 3000, "00", "01", "007", "000000000000", "012345678901"):
            self.none(piece)
            self.none("x + " + piece)

    def test_figures_with_letters_behind(self):
        for piece in ("1a", "0x", "12_", "1_000", "0_", "1e5", "9z9", "2x2", "1if"):
            self.none(piece)

    def test_numbers_beside_marks(self):
        self.told("-1", [("mark", "-"), ("number", 1)])
        self.told("1.5", [("number", 1), ("mark", "."), ("number", 5)])
        self.told("0.0", [("number", 0), ("mark", "."), ("number", 0)])
        self.told("1,2", [("number", 1), ("mark", ","), ("number", 2)])
        self.told("1 2", [("number", 1), ("number", 2)])
        self.told("0 0", [("number", 0), ("number", 0)])

    def test_each_mark_by_itself(self):
        for mark in MARKS:
            self.told(mark, [("mark", mark)])
            self.told(f"a{mark}b", [("name", "a"), ("mark", mark), ("name", "b")])
            self.told(f"1{mark}2", [("number", 1), ("mark", mark), ("number", 2)])
            self.told(f" {mark}  {mark} ", [("mark", mark), ("mark", mark)])

    def test_the_longest_mark_counts(self):
        for row, parts in (
                ("<==", "<= ="), ("===", "== ="), ("====", "== =="), ("=====", "== == ="), ("!==", "!= ="),
                ("//=", "// ="), ("////", "// //"), ("//*", "// *"), ("**", "* *"), ("**=", "* *="), ("*==", "*= ="),
                ("->", "- >"), ("--", "- -"), ("-=-", "-= -"), ("+==", "+= ="), ("+-=", "+ -="), ("<>", "< >"),
                ("<<=", "< <="), (">>=", "> >="), (">==", ">= ="), ("=<", "= <"), ("=>", "= >"), ("=+", "= +"),
                ("=!=", "= !="), ("&=", "& ="), ("|=", "| ="), ("&&", "& &"), ("||", "| |"), ("()", "( )"),
                ("((", "( ("), ("):", ") :"), ("...", ". . ."), (":=", ": ="), (",,", ", ,"), ("=-", "= -")):
            self.told(row, marks(parts))

    def test_blanks_part_marks(self):
        for row, parts in (("= =", "= ="), ("< =", "< ="), ("+ =", "+ ="), ("> =", "> =")):
            self.told(row, marks(parts))
        for row in ("/ /", "! =", "a / / b", "a ! = b"):
            self.none(row)

    def test_signs_that_are_no_mark(self):
        for sign in NO_MARKS:
            self.none(sign)
            self.none("a " + sign)
            self.none(sign + " a")
            self.none(f"a {sign} b")
        for row in ("///", "a / b", "!", "!!=", "a/b", "=!", "/=", "x[0]", "{}", "//// /"):
            self.none(row)

    def test_text_literals(self):
        for inside in ("", " ", "a", "if", "12", "007", "a b", "  ", "/!?[]{}", "'", "\\", "\\n", "it's", "_", "~" * 40,
                       "x" * 39, "x" * 40, " " * 40, "# no remark", "#", "a # b # c"):
            self.told(f'"{inside}"', [("text", inside)])

    def test_text_literals_hold_each_sign(self):
        for code in range(ord(" "), ord("~") + 1):
            if chr(code) not in '"%':
                self.told(f'"{chr(code)}"', [("text", chr(code))])

    def test_text_literals_that_are_too_long(self):
        for inside in ("x" * 41, " " * 41, "x" * 42, "x" * 500, "#" * 41):
            self.none(f'"{inside}"')
            self.none(f'say("{inside}")')

    def test_text_literals_that_are_not_closed(self):
        for row in ('"', '"a', 'a "', '"a" "', '"""', '"a"b"', 'say("a)', '"a # b', '"' + "x" * 40, '"' + "x" * 41):
            self.none(row)

    def test_text_literals_side_by_side(self):
        self.told('""""', [("text", ""), ("text", "")])
        self.told('"a""b"', [("text", "a"), ("text", "b")])
        self.told('"a" "b"', [("text", "a"), ("text", "b")])
        self.told('"a"b"c"', [("text", "a"), ("name", "b"), ("text", "c")])
        self.told('1"a"2', [("number", 1), ("text", "a"), ("number", 2)])
        self.told('"' + "x" * 40 + '""' + "y" * 40 + '"', [("text", "x" * 40), ("text", "y" * 40)])

    def test_remarks(self):
        self.told("a # b", names("a"))
        self.told("a#b", names("a"))
        self.told("a ## b", names("a"))
        self.told('a # "', names("a"))
        self.told("a # / ! 007 _x " + "y" * 13, names("a"))
        self.told('"a"#"b"', [("text", "a")])
        self.told('"#"#"#"', [("text", "#")])
        self.told('"a # b" # c', [("text", "a # b")])
        self.told("x =# y", [("name", "x"), ("mark", "=")])

    def test_what_is_none_ahead_of_a_remark(self):
        for row in ("/ # a", "007 # a", '"a # b" / # c', "!# ="):
            self.none(row)

    def test_blanks_mean_nothing(self):
        words = [("name", "x"), ("mark", "="), ("name", "f"), ("mark", "("), ("number", 1), ("mark", ","),
                 ("text", "a"), ("mark", ")"), ("mark", "."), ("name", "y")]
        for row in ('x=f(1,"a").y', 'x = f(1, "a").y', '   x  =  f ( 1 , "a" ) . y   ', ' ' * 52 + 'x=f(1,"a") .y'):
            self.told(row, words)

    def test_blanks_part_words(self):
        self.told("a b", names("a b"))
        self.told("ab", names("ab"))
        self.told("a 1", [("name", "a"), ("number", 1)])
        self.told("a1", names("a1"))
        self.told("1 a", [("number", 1), ("name", "a")])

    def test_tabs_are_no_signs(self):
        for row in ("\t", "\ta", "a\tb", "a\t", '"\t"', '"a\tb"'):
            self.none(row)

    def test_long_rows(self):
        self.told("a " * 2000, names("a " * 2000))
        self.told("+" * 4000, [("mark", "+")] * 4000)
        self.none("a " * 2000 + "/")

    def test_what_is_told_is_the_askers_own(self):
        for row in ('x = 1 + "a"', "", "# a"):
            first = words_of(row)
            second = words_of(row)
            self.assertEqual(first, second)
            kept = list(first)
            first.append(("name", "other"))
            self.assertEqual(second, kept)
            self.told(row, kept)
            first.clear()
            self.told(row, kept)

    def test_none_is_told_twice(self):
        self.none("a /")
        self.none("a /")


class Indents(unittest.TestCase):
    def told(self, row, indent):
        answer = indent_of(row)
        self.assertEqual(answer, indent, repr(row))
        self.assertIs(type(answer), type(indent))

    def test_each_number_of_blanks(self):
        for blanks in range(61):
            indent = blanks // 4 if blanks % 4 == 0 and blanks <= 48 else None
            for behind in ("x", "# x", "", ":", "/", '" "', "007", "x    ", "1 # y"):
                self.told(" " * blanks + behind, indent)

    def test_the_edges(self):
        self.told("", 0)
        self.told("x", 0)
        self.told(" " * 4, 1)
        self.told(" " * 4 + "x", 1)
        self.told(" " * 48 + "x", 12)
        self.told(" " * 48, 12)
        self.told(" " * 52 + "x", None)
        self.told(" " * 52, None)
        self.told(" " * 400 + "x", None)
        for blanks in (1, 2, 3, 5, 6, 7, 47, 49, 50, 51):
            self.told(" " * blanks + "x", None)

    def test_blanks_behind_words_do_not_count(self):
        self.told("x" + " " * 7, 0)
        self.told("    x   y  ", 1)

    def test_asked_twice(self):
        for _ in range(2):
            self.told("    x", 1)
            self.told("   x", None)


class Rows(unittest.TestCase):
    def told(self, text, rows):
        answer = rows_of(text)
        self.assertEqual(answer, rows, repr(text))
        self.assertIsInstance(answer, list)
        for row in answer:
            self.assertIsInstance(row, tuple)
            self.assertIs(type(row[0]), int)

    def test_no_rows(self):
        for text in ("", " ", "\n", "\n\n\n", "   \n # x\n", "#", "# a\n# b", "  \n     \n" + " " * 60 + "\n#"):
            self.told(text, [])

    def test_one_row(self):
        self.told("x", [(0, 0, names("x"))])
        self.told("x\n", [(0, 0, names("x"))])
        self.told("    x", [(0, 1, names("x"))])

    def test_rows_in_their_order(self):
        self.told("while x:\n    y\n        z\nw", [
            (0, 0, [("told", "while"), ("name", "x"), ("mark", ":")]),
            (1, 1, names("y")), (2, 2, names("z")), (3, 0, names("w"))])

    def test_rows_without_words_are_counted(self):
        self.told("\nx\n\n   \n# a\n     # b\ny # c\n\n", [(1, 0, names("x")), (6, 0, names("y"))])
        self.told("\n\n\nx", [(3, 0, names("x"))])
        self.told("x\n\n\n\ny\n\n\n", [(0, 0, names("x")), (4, 0, names("y"))])

    def test_rows_whose_indent_is_none(self):
        self.told(" x\n    y\n" + " " * 52 + "z", [(0, None, names("x")), (1, 1, names("y")), (2, None, names("z"))])
        self.told(" " * 48 + "x", [(0, 12, names("x"))])

    def test_rows_with_something_that_is_no_word(self):
        self.told("x\n    y /\nz", [(0, 0, names("x")), (1, 1, None), (2, 0, names("z"))])
        self.told("  007", [(0, None, None)])
        self.told('"a\nb"', [(0, 0, None), (1, 0, None)])
        self.told("/", [(0, 0, None)])

    def test_literals_do_not_go_on_over_rows(self):
        self.told('"a#\n"\n#"', [(0, 0, None), (1, 0, None)])
        self.told('"#"\n# "\nx', [(0, 0, [("text", "#")]), (2, 0, names("x"))])

    def test_nothing_of_order_or_number_is_refused(self):
        self.told("                x\n:\nelse", [(0, 4, names("x")), (1, 0, marks(":")), (2, 0, [("told", "else")])])
        self.told("x\n" * 250, [(number, 0, names("x")) for number in range(250)])
        self.told("+" * 5000, [(0, 0, [("mark", "+")] * 5000)])

    def test_what_is_told_is_the_askers_own(self):
        text = "x = 1\n\n    y\n/"
        rows = [(0, 0, [("name", "x"), ("mark", "="), ("number", 1)]), (2, 1, names("y")), (3, 0, None)]
        first = rows_of(text)
        second = rows_of(text)
        first[0][2].append(("name", "other"))
        first[1][2].clear()
        first.pop()
        self.assertEqual(second, rows)
        self.told(text, rows)

    def test_rows_of_the_same_words_are_apart(self):
        first, second = rows_of("x\nx")
        first[2].append(("name", "y"))
        self.assertEqual(second, (1, 0, names("x")))


if __name__ == "__main__":
    unittest.main()
