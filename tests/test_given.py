"""Calls of the given functions say, take, isa, elder and count; and of each with too few and too many values."""
import unittest

from grassnake.calls import called
from grassnake.faults import is_fault, made
from grassnake.fields import field_of, put_field, text_of
from grassnake.orders import order_of
from grassnake.store import World, frame_of, function, giver, is_giver, known, set_state, state_of
from making import ALL_FAULTS, FUNCTIONS, GIVEN, class_under, each_kind, plain_function

KIND = ("fault", "KindFault")
FIELD = ("fault", "FieldFault")
NONE = ("none",)
ONE, TWO, THREE = ("number", 1), ("number", 2), ("number", 3)
TRUE, FALSE = ("truth", True), ("truth", False)
OBJECTS = ("object", "fault", "given fault")
CLASSES = ("class", "fault class", "Thing", "Fault", "EndFault")


class InAWorld(unittest.TestCase):
    def setUp(self):
        self.world = World([5, 6])

    def called(self, name, *values):
        answer = called(self.world, known(self.world, name), values)
        self.assertIs(type(answer), tuple)
        return answer

    def refused(self, name, *values):
        for _ in range(2):
            self.assertEqual(self.called(name, *values), KIND)
        self.assertEqual((self.world.lines, self.world.left), ([], [5, 6]))

    def value(self, name, *values):
        answer = self.called(name, *values)
        self.assertEqual((answer[0], len(answer)), ("value", 2))
        return answer[1]

    def made_by(self, kind):
        return called(self.world, kind, ())[1]


class Counts(InAWorld):
    def test_too_few_and_too_many(self):
        kind = class_under(self.world, "A")
        one = self.made_by(kind)
        g, fault = giver(self.world, "g", "frame"), made(self.world, "Fault")
        set_state(self.world, g, "waits")
        right = {"say": (ONE,), "take": (), "isa": (one, kind), "elder": (kind, one), "count": (THREE,), "go": (g, ONE),
                 "throw": (g, fault), "shut": (g,)}
        self.assertEqual(sorted(right), sorted(FUNCTIONS))
        for name, values in right.items():
            for many in range(6):
                if many != len(values) and (name, many) != ("go", 1):
                    self.refused(name, *(values + (NONE,) * 6)[:many])
                    self.refused(name, *(values + values + (ONE,) * 6)[:many])
        self.assertEqual(state_of(self.world, g), "waits")

    def test_just_as_many(self):
        kind = class_under(self.world, "A")
        one = self.made_by(kind)
        for name, values in (("say", (ONE,)), ("take", ()), ("isa", (one, kind)), ("elder", (kind, one)),
                             ("count", (THREE,))):
            self.assertEqual(self.called(name, *values)[0], "value", name)

    def test_of_one_that_is_over_too(self):
        g, fault = giver(self.world, "g", "frame"), made(self.world, "Fault")
        for state in ("new", "over"):
            set_state(self.world, g, state)
            self.refused("go")
            self.refused("go", g, ONE, ONE)
            self.refused("go", g, NONE, NONE)
            self.refused("throw", g)
            self.refused("throw", g, fault, NONE)
            self.refused("shut")
            self.refused("shut", g, NONE)
            self.assertEqual(state_of(self.world, g), state)


class Say(InAWorld):
    def test_each_kind(self):
        wanted = {
            "number": "7", "nought": "0", "below": "-7", "text": "adder", "empty": "", "true": "True", "false": "False",
            "none": "None", "function": "function f", "giving function": "function g", "given function": "function say",
            "method": "method f", "class": "class Snake", "fault class": "class Bite", "Thing": "class Thing",
            "Fault": "class Fault", "EndFault": "class EndFault", "object": "a Snake", "fault": "a Bite",
            "given fault": "a EndFault", "giver": "giver g", "count": "giver count", "view": "view",
            "fault view": "view",
        }
        lines = []
        for word, value in each_kind(self.world).items():
            self.assertEqual(self.called("say", value), ("value", NONE), word)
            lines.append(wanted[word])
            self.assertEqual(self.world.lines, lines)
        self.assertEqual(self.world.left, [5, 6])
        self.assertIs(type(self.world.lines), list)

    def test_given_functions_and_classes(self):
        for name in GIVEN:
            self.called("say", known(self.world, name))
        self.assertEqual(self.world.lines, [("function " if name in FUNCTIONS else "class ") + name for name in GIVEN])

    def test_the_lines_in_their_order(self):
        for k in (3, 1, 2, 1):
            self.assertEqual(self.called("say", ("number", k)), ("value", NONE))
        self.assertEqual(self.world.lines, ["3", "1", "2", "1"])

    def test_numbers_and_texts_at_their_bounds(self):
        for value in (("number", 10 ** 30), ("number", -10 ** 30), ("text", "~" * 200), ("text", " ")):
            self.called("say", value)
        self.assertEqual(self.world.lines, ["1" + "0" * 30, "-1" + "0" * 30, "~" * 200, " "])

    def test_of_things_that_calls_made(self):
        kind = class_under(self.world, "Adder", (), {"hiss": plain_function(self.world, "loud")})
        one = self.made_by(kind)
        method, view = field_of(self.world, one, "hiss")[1], self.value("elder", kind, one)
        for value in (one, method, view, self.value("count", ONE), self.made_by(known(self.world, "ShutFault"))):
            self.called("say", value)
        self.assertEqual(self.world.lines, ["a Adder", "method loud", "view", "giver count", "a ShutFault"])

    def test_each_world_has_its_own(self):
        other = World([])
        self.called("say", ONE)
        self.assertEqual((self.world.lines, other.lines), (["1"], []))


class Take(InAWorld):
    def test_up_to_the_last_and_behind_it(self):
        inputs = [3, -1, 0, 10 ** 30, -10 ** 30]
        self.world = World(inputs)
        for k, n in enumerate(inputs):
            self.assertEqual(self.world.left, inputs[k:])
            self.assertEqual(self.called("take"), ("value", ("number", n)))
        for _ in range(3):
            self.assertEqual(self.world.left, [])
            self.assertEqual(self.called("take"), ("value", ("number", 0)))
        self.assertIs(type(self.world.left), list)
        self.assertEqual(self.world.lines, [])

    def test_the_list_that_was_handed_in_stays(self):
        inputs = [1, 2]
        self.world = World(inputs)
        self.called("take")
        self.assertEqual(inputs, [1, 2])
        inputs[1] = 9
        self.assertEqual(self.called("take"), ("value", TWO))

    def test_of_no_inputs(self):
        self.world = World([])
        self.assertEqual(self.called("take"), ("value", ("number", 0)))

    def test_forty_and_more(self):
        self.world = World(list(range(45)))
        self.assertEqual([self.called("take")[1][1] for _ in range(46)], list(range(45)) + [0])


class Isa(InAWorld):
    def told(self, x, kind, wanted):
        for _ in range(2):
            answer = self.called("isa", x, kind)
            self.assertEqual(answer, ("value", ("truth", wanted)))
            self.assertIs(answer[1][1], wanted)

    def test_by_the_order_of_the_objects_class(self):
        top, apart = class_under(self.world, "Top"), class_under(self.world, "Apart")
        left, right = class_under(self.world, "Left", (top,)), class_under(self.world, "Right", (top,))
        both = class_under(self.world, "Both", (left, right))
        thing = known(self.world, "Thing")
        fitting = {top: (top, thing), apart: (apart, thing), left: (left, top, thing), right: (right, top, thing),
                   both: (both, left, right, top, thing), thing: (thing,)}
        for kind, classes in fitting.items():
            one = self.made_by(kind)
            for other in list(fitting) + [known(self.world, "Fault")]:
                self.told(one, other, other in classes)

    def test_faults(self):
        for name in ALL_FAULTS:
            for other in ALL_FAULTS + ("Thing",):
                wanted = other in (name, "Fault", "Thing") or (name, other) == ("UnboundFault", "NameFault")
                self.told(made(self.world, name), known(self.world, other), wanted)

    def test_all_but_objects_have_no_class(self):
        kinds = each_kind(self.world)
        for word, value in kinds.items():
            for name in CLASSES:
                if word not in OBJECTS:
                    self.told(value, kinds[name], False)
            self.told(value, kinds["Thing"], word in OBJECTS)

    def test_a_class_is_none_of_itself(self):
        kind = class_under(self.world, "A")
        self.told(kind, kind, False)
        self.told(kind, known(self.world, "Thing"), False)

    def test_what_is_no_class(self):
        kinds = each_kind(self.world)
        for word, value in kinds.items():
            if word not in CLASSES:
                for x in kinds.values():
                    self.refused("isa", x, value)
        for name in FUNCTIONS:
            self.refused("isa", kinds["object"], known(self.world, name))

    def test_another_class_of_the_same_name(self):
        one, other = class_under(self.world, "A"), class_under(self.world, "A")
        self.told(self.made_by(one), other, False)
        self.told(self.made_by(one), one, True)


class Elder(InAWorld):
    def setUp(self):
        InAWorld.setUp(self)
        self.f = function(self.world, "f", 2, (), 0, 0, False)
        self.thing = known(self.world, "Thing")
        self.top = class_under(self.world, "Top", (), {
            "a": ONE, "b": ONE, "c": ONE, "start": plain_function(self.world, "s")})
        self.left = class_under(self.world, "Left", (self.top,), {"a": TWO})
        self.right = class_under(self.world, "Right", (self.top,), {"a": THREE, "b": THREE, "m": self.f})
        self.both = class_under(self.world, "Both", (self.left, self.right), {"a": NONE, "d": ONE, "m": ONE})
        self.one = called(self.world, self.both, ())[1]

    def view(self, kind):
        return self.value("elder", kind, self.one)

    def told(self, a, name, wanted):
        for _ in range(2):
            self.assertEqual(field_of(self.world, a, name), ("value", wanted), name)

    def lacks(self, a, *names):
        for name in names:
            self.assertEqual(field_of(self.world, a, name), FIELD, name)

    def test_each_class_in_the_order(self):
        for kind in (self.both, self.left, self.right, self.top, self.thing):
            view = self.view(kind)
            self.assertEqual(text_of(self.world, view), "view")
            self.assertNotIn(view, (kind, self.one))

    def test_fields_are_found_behind_it(self):
        for kind, a, b in ((self.both, TWO, THREE), (self.left, THREE, THREE), (self.right, ONE, ONE)):
            self.told(self.view(kind), "a", a)
            self.told(self.view(kind), "b", b)
            self.told(self.view(kind), "c", ONE)
            self.lacks(self.view(kind), "d", "e")
        self.lacks(self.view(self.top), "a", "b", "c", "d", "m")
        self.lacks(self.view(self.thing), "a", "b", "c", "d", "m")

    def test_the_objects_own_are_not_found(self):
        put_field(self.world, self.one, "a", ("text", "own"))
        put_field(self.world, self.one, "own", ONE)
        view = self.view(self.both)
        self.told(view, "a", TWO)
        self.lacks(view, "own")

    def test_functions_are_found_as_methods_of_the_object(self):
        for kind in (self.both, self.left):
            view = self.view(kind)
            methods = [field_of(self.world, view, "m")[1] for _ in range(2)]
            self.assertNotEqual(methods[0], methods[1])
            for method in methods:
                self.assertEqual(text_of(self.world, method), "method f")
                self.assertEqual(called(self.world, method, (TWO,)), ("enter", self.f, (self.one, TWO)))
        self.lacks(self.view(self.right), "m")

    def test_start_by_a_view(self):
        method = field_of(self.world, self.view(self.both), "start")[1]
        answer = called(self.world, method, ())
        self.assertEqual((answer[0], answer[2]), ("enter", (self.one,)))

    def test_nothing_can_be_put(self):
        view = self.view(self.both)
        for name in ("a", "z"):
            self.assertEqual(put_field(self.world, view, name, ONE), FIELD)
        self.told(view, "a", TWO)
        self.lacks(self.one, "z")

    def test_what_is_put_later_is_found(self):
        view = self.view(self.left)
        put_field(self.world, self.right, "late", ONE)
        put_field(self.world, self.left, "early", ONE)
        self.told(view, "late", ONE)
        self.lacks(view, "early")

    def test_a_class_that_is_not_in_the_order(self):
        lower = class_under(self.world, "Lower", (self.both,))
        for kind in (lower, class_under(self.world, "Apart"), class_under(self.world, "Both"),
                     known(self.world, "Fault"), known(self.world, "KindFault")):
            self.refused("elder", kind, self.one)
        other = called(self.world, self.left, ())[1]
        self.refused("elder", self.right, other)
        self.refused("elder", self.both, other)
        self.assertEqual(self.called("elder", self.top, other)[0], "value")

    def test_no_class(self):
        for word, value in each_kind(self.world).items():
            if word not in CLASSES:
                self.refused("elder", value, self.one)
        self.refused("elder", self.one, self.both)

    def test_no_object(self):
        for word, value in each_kind(self.world).items():
            if word not in OBJECTS:
                self.refused("elder", self.thing, value)
                self.refused("elder", value, value)
        self.refused("elder", self.both, self.view(self.both))

    def test_of_each_object(self):
        kinds = each_kind(self.world)
        for word in OBJECTS:
            self.assertEqual(text_of(self.world, self.value("elder", self.thing, kinds[word])), "view")

    def test_of_a_fault(self):
        bite = class_under(self.world, "Bite", ("Fault",), {"word": ONE})
        sting = class_under(self.world, "Sting", (bite,))
        fault = called(self.world, sting, (TWO,))[1]
        self.told(self.value("elder", sting, fault), "word", ONE)
        self.lacks(self.value("elder", bite, fault), "word", "cause", "context")
        self.assertIs(is_fault(self.world, self.value("elder", bite, fault)), False)

    def test_a_view_is_no_elder(self):
        self.assertEqual(order_of(self.world, (self.view(self.both),)), KIND)


class Count(InAWorld):
    def test_numbers_up_to_ten_thousand(self):
        for n in (-10 ** 30, -1, 0, 1, 2, 9999, 10000):
            g = self.value("count", ("number", n))
            self.assertIs(is_giver(self.world, g), True)
            self.assertEqual(state_of(self.world, g), "new")
            self.assertIsNone(frame_of(self.world, g))
            self.assertEqual(text_of(self.world, g), "giver count")

    def test_beyond(self):
        for n in (10001, 10002, 20000, 10 ** 30):
            for _ in range(2):
                self.assertEqual(self.called("count", ("number", n)), ("fault", "GreatFault"))

    def test_what_is_no_number(self):
        for word, value in each_kind(self.world).items():
            if word not in ("number", "nought", "below"):
                self.refused("count", value)
        self.refused("count", ("text", "3"))

    def test_a_new_one_each_time(self):
        self.assertEqual(len({self.value("count", THREE) for _ in range(10)}), 10)

    def test_one_beyond_with_a_second_value(self):
        self.refused("count", ("number", 10001), ONE)


if __name__ == "__main__":
    unittest.main()
