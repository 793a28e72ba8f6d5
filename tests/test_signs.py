"""Signs: each with each pair of kinds, their bounds, minus, and what is wanting."""
import itertools
import unittest

from grassnake.signs import is_wanting, minus, two
from grassnake.store import World
from making import each_kind

SUMS = ("+", "-", "*", "//")
BITS = ("&", "|")
COMPARES = ("<", "<=", ">", ">=")
LIKE = ("==", "!=")
SIGNS = SUMS + BITS + COMPARES + LIKE
KIND = ("fault", "KindFault")
NOUGHT = ("fault", "NoughtFault")
GREAT = ("fault", "GreatFault")
MOST = 10 ** 30
VALUES = {
    "number": (("number", 0), ("number", 1), ("number", 5), ("number", -1), ("number", MOST)),
    "text": (("text", ""), ("text", "a"), ("text", "1"), ("text", "True"), ("text", "x" * 200)),
    "truth": (("truth", True), ("truth", False)),
    "none": (("none",),),
    "thing": (("thing", 0), ("thing", 1), ("thing", 7)),
}
TAKEN = {"number": SIGNS, "text": ("+",) + COMPARES + LIKE, "truth": BITS + LIKE, "none": LIKE, "thing": LIKE}


def number(n):
    return ("number", n)


def text(t):
    return ("text", t)


def truth(b):
    return ("truth", b)


class Signs(unittest.TestCase):
    def told(self, sign, a, b, wanted):
        for _ in range(2):
            answer = two(sign, a, b)
            self.assertEqual(answer, wanted, (sign, a, b))
            self.assertIs(type(answer), tuple)
            if wanted[0] == "value":
                self.assertEqual([type(part) for part in answer[1]], [type(part) for part in wanted[1]])

    def numbers(self, sign, one, other, wanted):
        self.told(sign, number(one), number(other), ("value", number(wanted)))


class Kinds(Signs):
    def test_each_sign_with_each_pair_of_kinds(self):
        for one, other in itertools.product(VALUES, VALUES):
            for sign in SIGNS:
                if sign not in LIKE and (one != other or sign not in TAKEN[one]):
                    for a, b in itertools.product(VALUES[one], VALUES[other]):
                        self.told(sign, a, b, KIND)

    def test_those_of_one_kind_that_are_taken(self):
        for kind, signs in TAKEN.items():
            for sign in signs:
                for a, b in itertools.product(VALUES[kind][1:3], VALUES[kind][1:3]):
                    self.assertEqual(two(sign, a, b)[0], "value", (sign, a, b))

    def test_a_truth_is_no_number(self):
        for sign in SUMS + BITS + COMPARES:
            for a, b in ((truth(True), number(1)), (truth(False), number(0)), (truth(True), number(0))):
                self.told(sign, a, b, KIND)
                self.told(sign, b, a, KIND)
        for sign in SUMS + COMPARES:
            for a, b in itertools.product((truth(True), truth(False)), repeat=2):
                self.told(sign, a, b, KIND)

    def test_a_text_and_a_number(self):
        self.told("*", text("a"), number(3), KIND)
        self.told("*", number(3), text("a"), KIND)
        self.told("+", text("a"), number(3), KIND)
        self.told("+", number(3), text("3"), KIND)
        self.told("<", number(3), text("3"), KIND)

    def test_things_of_a_world(self):
        world = World([])
        kinds = each_kind(world)
        for (one, a), (other, b) in itertools.product(kinds.items(), repeat=2):
            self.told("==", a, b, ("value", truth(one == other)))
            self.told("!=", a, b, ("value", truth(one != other)))
            if "thing" in (a[0], b[0]):
                for sign in SUMS + BITS + COMPARES:
                    self.told(sign, a, b, KIND)

    def test_kind_ahead_of_the_others(self):
        self.told("//", text("a"), number(0), KIND)
        self.told("//", truth(True), number(0), KIND)
        self.told("//", ("none",), number(0), KIND)
        self.told("//", number(1), truth(False), KIND)
        self.told("*", number(MOST), truth(True), KIND)
        self.told("|", number(MOST), number(-1), KIND)
        self.told("-", text("x" * 200), text("x" * 200), KIND)
        self.told("+", text("x" * 200), number(MOST), KIND)


class Numbers(Signs):
    def test_sums(self):
        for one, other in itertools.product((0, 1, -1, 7, -12, 10 ** 15, -10 ** 15), repeat=2):
            self.numbers("+", one, other, one + other)
            self.numbers("-", one, other, one - other)
            self.numbers("*", one, other, one * other)

    def test_parts(self):
        for one, other, wanted in (
                (7, 2, 3), (-7, 2, -4), (7, -2, -4), (-7, -2, 3), (6, 2, 3), (-6, 2, -3), (6, -2, -3), (-6, -2, 3),
                (0, 5, 0), (0, -5, 0), (1, 5, 0), (-1, 5, -1), (1, -5, -1), (-1, -5, 0), (MOST, 3, MOST // 3),
                (-MOST, 3, -(MOST // 3) - 1), (MOST, -1, -MOST), (-MOST, 1, -MOST), (1, MOST, 0), (-1, MOST, -1),
                (MOST, MOST, 1), (10 ** 17 + 1, 10, 10 ** 16)):
            self.numbers("//", one, other, wanted)

    def test_parts_by_nought(self):
        for one in (0, 1, -1, MOST, -MOST, MOST + 1, MOST * 10):
            self.told("//", number(one), number(0), NOUGHT)

    def test_bits(self):
        for one, other in itertools.product((0, 1, 2, 3, 5, 12, 255, 10 ** 20), repeat=2):
            self.numbers("&", one, other, one & other)
            self.numbers("|", one, other, one | other)
        self.numbers("&", 12, 10, 8)
        self.numbers("|", 12, 10, 14)
        self.numbers("&", 12, 3, 0)
        self.numbers("|", 12, 3, 15)
        self.numbers("&", MOST, MOST, MOST)
        self.numbers("|", MOST, 0, MOST)

    def test_bits_of_negative_ones(self):
        for sign in BITS:
            for one, other in ((-1, 0), (0, -1), (-1, -1), (-1, 5), (5, -1), (-MOST, MOST), (MOST, -MOST)):
                self.told(sign, number(one), number(other), KIND)

    def test_compared(self):
        for one, other in itertools.product((0, 1, -1, 2, 10, 9, MOST, -MOST), repeat=2):
            for sign, wanted in (("<", one < other), ("<=", one <= other), (">", one > other), (">=", one >= other),
                                 ("==", one == other), ("!=", one != other)):
                self.told(sign, number(one), number(other), ("value", truth(wanted)))


class Bounds(Signs):
    def test_up_to_the_bound(self):
        self.numbers("+", MOST - 1, 1, MOST)
        self.numbers("+", 1 - MOST, -1, -MOST)
        self.numbers("-", MOST - 1, -1, MOST)
        self.numbers("-", 1 - MOST, 1, -MOST)
        self.numbers("*", 10 ** 15, 10 ** 15, MOST)
        self.numbers("*", -10 ** 15, 10 ** 15, -MOST)
        self.numbers("*", MOST, -1, -MOST)
        self.numbers("+", MOST, 0, MOST)
        self.numbers("+", MOST, -MOST, 0)

    def test_beyond_it(self):
        for sign, one, other in (
                ("+", MOST, 1), ("+", 1, MOST), ("+", -MOST, -1), ("-", MOST, -1), ("-", -MOST, 1), ("-", -1, MOST),
                ("+", MOST, MOST), ("*", 10 ** 15, 10 ** 15 + 1), ("*", -10 ** 15, 10 ** 15 + 1), ("*", MOST, MOST),
                ("*", -MOST, 2), ("|", MOST, MOST - 1), ("|", MOST, 1), ("|", 1, MOST)):
            self.told(sign, number(one), number(other), GREAT)

    def test_of_numbers_beyond_it(self):
        beyond = MOST + 1
        self.numbers("+", beyond, -1, MOST)
        self.numbers("-", beyond, 2, MOST - 1)
        self.numbers("*", beyond, 0, 0)
        self.numbers("//", beyond, 2, MOST // 2)
        self.numbers("&", beyond, 1, 1)
        self.told("//", number(beyond), number(1), GREAT)
        self.told("//", number(beyond), number(-1), GREAT)
        self.told("//", number(-beyond), number(1), GREAT)
        self.told("//", number(beyond), number(0), NOUGHT)
        self.told("&", number(beyond), number(beyond), GREAT)
        self.told("|", number(beyond), number(0), GREAT)
        self.told("|", number(beyond), number(-1), KIND)
        self.told("<", number(MOST), number(beyond), ("value", truth(True)))
        self.told("==", number(beyond), number(beyond), ("value", truth(True)))

    def test_texts(self):
        self.told("+", text("x" * 200), text(""), ("value", text("x" * 200)))
        self.told("+", text(""), text("x" * 200), ("value", text("x" * 200)))
        self.told("+", text("x" * 199), text("y"), ("value", text("x" * 199 + "y")))
        self.told("+", text("x" * 100), text("y" * 100), ("value", text("x" * 100 + "y" * 100)))
        self.told("+", text("x" * 200), text("y"), GREAT)
        self.told("+", text("y"), text("x" * 200), GREAT)
        self.told("+", text("x" * 100), text("y" * 101), GREAT)
        self.told("+", text("x" * 200), text("x" * 200), GREAT)
        self.told("+", text("x" * 201), text(""), GREAT)


class Texts(Signs):
    def test_side_by_side(self):
        for one, other in (("", ""), ("a", ""), ("", "a"), ("ab", "cd"), ("cd", "ab"), (" ", "~"), ("\n", "1")):
            self.told("+", text(one), text(other), ("value", text(one + other)))

    def test_compared(self):
        rising = ("", " ", "  ", " a", "!", "#", "0", "00", "1", "10", "2", "A", "AB", "Z", "_", "a", "a ", "aZ", "aa",
                  "ab", "abc", "b", "z", "{", "|", "~", "~ ", "~~")
        for (k, one), (m, other) in itertools.product(enumerate(rising), repeat=2):
            for sign, wanted in (("<", k < m), ("<=", k <= m), (">", k > m), (">=", k >= m), ("==", k == m),
                                 ("!=", k != m)):
                self.told(sign, text(one), text(other), ("value", truth(wanted)))

    def test_other_signs(self):
        for sign in ("-", "*", "//", "&", "|"):
            self.told(sign, text("a"), text("b"), KIND)
            self.told(sign, text(""), text(""), KIND)


class Truths(Signs):
    def test_bits(self):
        for one, other in itertools.product((True, False), repeat=2):
            self.told("&", truth(one), truth(other), ("value", truth(one and other)))
            self.told("|", truth(one), truth(other), ("value", truth(one or other)))

    def test_alike(self):
        for one, other in itertools.product((True, False), repeat=2):
            self.told("==", truth(one), truth(other), ("value", truth(one == other)))
            self.told("!=", truth(one), truth(other), ("value", truth(one != other)))


class Alike(Signs):
    def test_kinds_are_apart(self):
        for one, other in itertools.permutations(VALUES, 2):
            for a, b in itertools.product(VALUES[one], VALUES[other]):
                self.told("==", a, b, ("value", truth(False)))
                self.told("!=", a, b, ("value", truth(True)))

    def test_a_truth_and_a_number_are_unlike(self):
        for a, b in ((truth(True), number(1)), (truth(False), number(0)), (number(1), truth(True))):
            self.told("==", a, b, ("value", truth(False)))
            self.told("!=", a, b, ("value", truth(True)))

    def test_of_one_kind_by_worth(self):
        for kind in VALUES:
            for (k, a), (m, b) in itertools.product(enumerate(VALUES[kind]), repeat=2):
                self.told("==", a, b, ("value", truth(k == m)))
                self.told("!=", a, b, ("value", truth(k != m)))

    def test_a_thing_and_its_number(self):
        self.told("==", ("thing", 3), ("number", 3), ("value", truth(False)))
        self.told("==", ("thing", 3), ("thing", 3), ("value", truth(True)))


class Minus(unittest.TestCase):
    def told(self, a, wanted):
        for _ in range(2):
            answer = minus(a)
            self.assertEqual(answer, wanted, a)
            self.assertIs(type(answer), tuple)

    def test_of_numbers(self):
        for n in (0, 1, -1, 12, -12, MOST, -MOST):
            self.told(number(n), ("value", number(-n)))

    def test_of_numbers_beyond_the_bound(self):
        for n in (MOST + 1, -MOST - 1):
            self.told(number(n), GREAT)

    def test_of_others(self):
        for kind in ("text", "truth", "none", "thing"):
            for value in VALUES[kind]:
                self.told(value, KIND)
        for value in each_kind(World([])).values():
            if value[0] != "number":
                self.told(value, KIND)


class Wanting(unittest.TestCase):
    def test_what_is(self):
        for value in (truth(False), ("none",), number(0), text("")):
            for _ in range(2):
                self.assertIs(is_wanting(value), True, value)

    def test_what_is_not(self):
        for value in (truth(True), number(1), number(-1), number(MOST), text(" "), text("0"), text("False"),
                      text("None"), ("thing", 0), ("thing", 1), ("thing", 30)):
            for _ in range(2):
                self.assertIs(is_wanting(value), False, value)

    def test_each_kind(self):
        for word, value in each_kind(World([])).items():
            self.assertIs(is_wanting(value), word in ("nought", "empty", "false", "none"), word)


if __name__ == "__main__":
    unittest.main()
