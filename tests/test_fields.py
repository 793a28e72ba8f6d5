"""Fields: where those of objects, classes and views are found, what put binds; and the texts of values."""
import unittest

from grassnake.faults import made
from grassnake.fields import field_of, put_field, text_of
from grassnake.store import (
    World, function, function_of, giver, known, new_count, new_method, new_object, new_view, thing_of)
from making import ALL_FAULTS, FUNCTIONS, GIVEN, class_under, each_kind, plain_function

FIELD = ("fault", "FieldFault")
DONE = ("value", ("none",))
ONE, TWO, THREE = ("number", 1), ("number", 2), ("number", 3)


class Fields(unittest.TestCase):
    def setUp(self):
        self.world = World([])

    def told(self, a, name, wanted):
        """The same each time, so no new thing."""
        for _ in range(2):
            answer = field_of(self.world, a, name)
            self.assertEqual(answer, ("value", wanted), name)
            self.assertIs(type(answer), tuple)

    def lacks(self, a, name):
        for _ in range(2):
            self.assertEqual(field_of(self.world, a, name), FIELD, name)

    def put(self, a, name, value):
        self.assertEqual(put_field(self.world, a, name, value), DONE)

    def method_told(self, a, name, function_a, owner):
        """A method of this function and object, a new one each time."""
        answers = [field_of(self.world, a, name) for _ in range(3)]
        self.assertEqual([answer[0] for answer in answers], ["value"] * 3)
        self.assertEqual(len({answer[1] for answer in answers}), 3)
        for answer in answers:
            self.assertEqual(text_of(self.world, answer[1]), "method " + function_of(self.world, function_a)[0])
            thing = thing_of(self.world, answer[1])
            self.assertEqual((thing.target, thing.owner), (function_a, owner))


class OfObjects(Fields):
    def test_none_at_first(self):
        one = new_object(self.world, class_under(self.world, "A"))
        for name in ("a", "word", "cause", "context", "start", "name", "fields", "kind"):
            self.lacks(one, name)

    def test_its_own_ahead_of_its_classs(self):
        kind = class_under(self.world, "A", (), {"a": ONE, "b": TWO})
        one = new_object(self.world, kind)
        self.told(one, "a", ONE)
        self.put(one, "a", THREE)
        self.told(one, "a", THREE)
        self.told(one, "b", TWO)
        self.told(kind, "a", ONE)

    def test_wanting_values_are_there(self):
        kind = class_under(self.world, "A", (), {"a": ONE, "b": ("none",)})
        one = new_object(self.world, kind)
        for value in (("none",), ("number", 0), ("truth", False), ("text", "")):
            self.put(one, "a", value)
            self.told(one, "a", value)
        self.told(one, "b", ("none",))

    def test_the_first_class_in_the_order(self):
        top = class_under(self.world, "Top", (), {"a": ONE, "b": ONE, "c": ONE, "d": ONE})
        left = class_under(self.world, "Left", (top,), {"a": TWO})
        right = class_under(self.world, "Right", (top,), {"a": THREE, "b": THREE})
        kind = class_under(self.world, "Both", (left, right), {"c": ("text", "c")})
        one = new_object(self.world, kind)
        self.told(one, "a", TWO)
        self.told(one, "b", THREE)
        self.told(one, "c", ("text", "c"))
        self.told(one, "d", ONE)
        self.lacks(one, "e")

    def test_a_field_that_a_class_has_later(self):
        top = class_under(self.world, "Top")
        kind = class_under(self.world, "A", (top,))
        one = new_object(self.world, kind)
        self.lacks(one, "a")
        self.put(top, "a", ONE)
        self.told(one, "a", ONE)
        self.put(kind, "a", TWO)
        self.told(one, "a", TWO)

    def test_a_method_is_of_the_object_by_which_it_was_found(self):
        function_a = plain_function(self.world, "f")
        kind = class_under(self.world, "A", (), {"g": function_a})
        one, other = new_object(self.world, kind), new_object(self.world, kind)
        self.method_told(one, "g", function_a, one)
        self.method_told(other, "g", function_a, other)

    def test_each_has_its_own(self):
        kind = class_under(self.world, "A")
        one, other = new_object(self.world, kind), new_object(self.world, kind)
        self.put(one, "a", ONE)
        self.lacks(other, "a")
        self.lacks(kind, "a")

    def test_a_method_is_new_each_time(self):
        function_a = plain_function(self.world, "f")
        kind = class_under(self.world, "A", (), {"g": function_a})
        one = new_object(self.world, kind)
        self.method_told(one, "g", function_a, one)
        self.told(kind, "g", function_a)

    def test_a_method_by_an_elder(self):
        giving = function(self.world, "h", 1, (), (), (), True)
        top = class_under(self.world, "Top", (), {"g": giving})
        one = new_object(self.world, class_under(self.world, "A", (top,)))
        self.method_told(one, "g", giving, one)

    def test_functions_of_its_own_stay_as_they_are(self):
        function_a = plain_function(self.world, "f")
        kind = class_under(self.world, "A", (), {"g": plain_function(self.world, "h")})
        one = new_object(self.world, kind)
        self.put(one, "g", function_a)
        self.told(one, "g", function_a)

    def test_all_but_defs_functions_stay_as_they_are(self):
        kinds = each_kind(self.world)
        for word, value in kinds.items():
            if word not in ("function", "giving function"):
                kind = class_under(self.world, "A", (), {"a": value})
                self.told(new_object(self.world, kind), "a", value)
        for name in GIVEN:
            value = known(self.world, name)
            self.told(new_object(self.world, class_under(self.world, "A", (), {"a": value})), "a", value)

    def test_each_kind_as_its_own(self):
        one = new_object(self.world, class_under(self.world, "A"))
        for value in each_kind(self.world).values():
            self.put(one, "a", value)
            self.told(one, "a", value)

    def test_a_function_that_is_found_is_not_changed(self):
        function_a = plain_function(self.world, "f")
        one = new_object(self.world, class_under(self.world, "A", (), {"g": function_a}))
        before = function_of(self.world, function_a)
        self.method_told(one, "g", function_a, one)
        self.assertEqual(function_of(self.world, function_a), before)

    def test_a_method_is_bound_as_it_is(self):
        """A method that was put into a class or an object stays one of the object by which it was found."""
        kind = class_under(self.world, "A", (), {"g": plain_function(self.world, "f")})
        one, other = new_object(self.world, kind), new_object(self.world, kind)
        bound = field_of(self.world, one, "g")[1]
        self.put(other, "g", bound)
        self.told(other, "g", bound)
        self.put(kind, "h", bound)
        self.told(other, "h", bound)

    def test_faults(self):
        for name in ALL_FAULTS:
            one = made(self.world, name)
            for field in ("word", "cause", "context"):
                self.told(one, field, ("none",))
                self.put(one, field, TWO)
                self.told(one, field, TWO)
            self.lacks(one, "start")
            self.put(one, "start", ONE)
            self.told(one, "start", ONE)

    def test_faults_fields_are_ahead_of_their_classs(self):
        kind = class_under(self.world, "Bite", ("Fault",), {"word": ONE, "cause": TWO, "other": THREE})
        one = new_object(self.world, kind)
        self.told(one, "word", ("none",))
        self.told(one, "cause", ("none",))
        self.told(one, "other", THREE)
        self.told(kind, "word", ONE)
        self.lacks(kind, "context")

    def test_an_object_of_thing(self):
        one = made(self.world, "Thing")
        for field in ("word", "cause", "context"):
            self.lacks(one, field)


class OfClasses(Fields):
    def test_the_first_in_its_order(self):
        top = class_under(self.world, "Top", (), {"a": ONE, "b": ONE, "c": ONE})
        left = class_under(self.world, "Left", (top,), {"a": TWO})
        right = class_under(self.world, "Right", (top,), {"a": THREE, "b": THREE})
        both = class_under(self.world, "Both", (left, right))
        for name, value in (("a", TWO), ("b", THREE), ("c", ONE)):
            self.told(both, name, value)
        self.told(right, "a", THREE)
        self.told(left, "b", ONE)
        self.lacks(both, "d")

    def test_functions_stay_as_they_are(self):
        function_a = plain_function(self.world, "f")
        top = class_under(self.world, "Top", (), {"g": function_a})
        self.told(top, "g", function_a)
        self.told(class_under(self.world, "A", (top,)), "g", function_a)

    def test_each_kind(self):
        for value in each_kind(self.world).values():
            kind = class_under(self.world, "A", (), {"a": value})
            self.told(kind, "a", value)

    def test_put_binds_its_own(self):
        top = class_under(self.world, "Top", (), {"a": ONE})
        kind = class_under(self.world, "A", (top,))
        self.put(kind, "a", TWO)
        self.told(kind, "a", TWO)
        self.told(top, "a", ONE)
        self.put(kind, "b", THREE)
        self.lacks(top, "b")

    def test_given_classes(self):
        for name in ("Thing",) + ALL_FAULTS:
            for field in ("a", "word", "cause", "context", "start"):
                self.lacks(known(self.world, name), field)
                for _ in range(2):
                    self.assertEqual(put_field(self.world, known(self.world, name), field, ONE), FIELD)
                self.lacks(known(self.world, name), field)

    def test_classes_under_given_ones_can_be_changed(self):
        kind = class_under(self.world, "KindFault", ("KindFault",))
        self.put(kind, "a", ONE)
        self.told(kind, "a", ONE)
        self.lacks(known(self.world, "KindFault"), "a")


class OfViews(Fields):
    def setUp(self):
        Fields.setUp(self)
        self.top = class_under(self.world, "Top", (), {"a": ONE, "b": ONE, "c": ONE})
        self.left = class_under(self.world, "Left", (self.top,), {"a": TWO})
        self.right = class_under(self.world, "Right", (self.top,), {"a": THREE, "b": THREE})
        self.both = class_under(self.world, "Both", (self.left, self.right), {"a": ("none",), "d": ONE})
        self.one = new_object(self.world, self.both)

    def view(self, kind):
        return new_view(self.world, kind, self.one)

    def test_behind_the_class_in_the_order_of_the_objects_class(self):
        self.told(self.view(self.both), "a", TWO)
        self.told(self.view(self.left), "a", THREE)
        self.told(self.view(self.right), "a", ONE)
        self.lacks(self.view(self.top), "a")
        self.told(self.view(self.left), "b", THREE)
        self.told(self.view(self.right), "b", ONE)
        self.lacks(self.view(self.both), "d")
        self.lacks(self.view(known(self.world, "Thing")), "a")

    def test_not_the_objects_own(self):
        self.put(self.one, "a", ("text", "own"))
        self.put(self.one, "e", ("text", "own"))
        self.told(self.view(self.both), "a", TWO)
        self.lacks(self.view(self.both), "e")

    def test_methods_are_the_objects(self):
        function_a = plain_function(self.world, "f")
        self.put(self.right, "g", function_a)
        self.method_told(self.view(self.both), "g", function_a, self.one)
        self.method_told(self.view(self.left), "g", function_a, self.one)
        self.lacks(self.view(self.right), "g")
        self.told(self.right, "g", function_a)

    def test_others_stay_as_they_are(self):
        for word, value in each_kind(self.world).items():
            if word not in ("function", "giving function"):
                self.put(self.top, "g", value)
                self.told(self.view(self.left), "g", value)

    def test_put_is_refused(self):
        view = self.view(self.left)
        for name in ("a", "z"):
            self.assertEqual(put_field(self.world, view, name, ONE), FIELD)
        self.told(view, "a", THREE)
        self.lacks(view, "z")
        self.lacks(self.one, "z")

    def test_of_a_fault(self):
        fang = new_object(self.world, class_under(self.world, "Bite", ("Fault",)))
        self.lacks(new_view(self.world, known(self.world, "Fault"), fang), "word")


class OfOthers(Fields):
    def others(self):
        kinds = each_kind(self.world)
        words = ("number", "nought", "below", "text", "empty", "true", "false", "none", "function", "giving function",
                 "given function", "method", "giver", "count")
        found = [kinds[word] for word in words] + [known(self.world, name) for name in FUNCTIONS]
        self.assertEqual(len(found), 22)
        return found

    def test_have_none(self):
        for value in self.others():
            for name in ("a", "word", "start", "name", "state", "frame", "owner", "fields"):
                self.lacks(value, name)

    def test_take_none(self):
        for value in self.others():
            for name in ("a", "word", "state"):
                for _ in range(2):
                    self.assertEqual(put_field(self.world, value, name, ONE), FIELD)
                self.lacks(value, name)

    def test_a_method_has_none_of_its_objects(self):
        one = new_object(self.world, class_under(self.world, "A", (), {"a": ONE}))
        self.lacks(new_method(self.world, plain_function(self.world, "f"), one), "a")


class Texts(unittest.TestCase):
    def setUp(self):
        self.world = World([])

    def told(self, a, wanted):
        for _ in range(2):
            answer = text_of(self.world, a)
            self.assertEqual(answer, wanted)
            self.assertIs(type(answer), str)

    def test_numbers(self):
        for n, wanted in ((0, "0"), (7, "7"), (-7, "-7"), (120, "120"), (10 ** 30, "1" + "0" * 30),
                          (-10 ** 30, "-1" + "0" * 30)):
            self.told(("number", n), wanted)

    def test_truths_and_none(self):
        self.told(("truth", True), "True")
        self.told(("truth", False), "False")
        self.told(("none",), "None")

    def test_texts_as_they_are(self):
        for t in ("", "a", " a  b ", "True", "0", "'", "{name}", "\\n", "it's", "x" * 200):
            self.told(("text", t), t)

    def test_functions(self):
        self.told(plain_function(self.world, "f"), "function f")
        self.told(function(self.world, "abcdefghijkl", 0, (), (), (), True), "function abcdefghijkl")
        for name in FUNCTIONS:
            self.told(known(self.world, name), "function " + name)

    def test_methods(self):
        one = new_object(self.world, class_under(self.world, "A", (), {"g": plain_function(self.world, "h")}))
        self.told(field_of(self.world, one, "g")[1], "method h")

    def test_classes_and_objects(self):
        kind = class_under(self.world, "Adder")
        self.told(kind, "class Adder")
        self.told(new_object(self.world, kind), "a Adder")
        for name in ("Thing",) + ALL_FAULTS:
            self.told(known(self.world, name), "class " + name)
            self.told(made(self.world, name), "a " + name)
            self.told(made(self.world, name, ("text", "word")), "a " + name)

    def test_givers(self):
        self.told(giver(self.world, "g", "frame"), "giver g")
        self.told(giver(self.world, "count", "frame"), "giver count")
        self.told(new_count(self.world, 4), "giver count")

    def test_views(self):
        kind = class_under(self.world, "Adder")
        self.told(new_view(self.world, kind, new_object(self.world, kind)), "view")


if __name__ == "__main__":
    unittest.main()
