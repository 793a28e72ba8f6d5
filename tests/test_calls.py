"""Calls of functions, methods and classes, and of what can't be called."""
import unittest

from grassnake.calls import called
from grassnake.faults import bind_raised, is_fault, made, names_of
from grassnake.fields import field_of, put_field, text_of
from grassnake.store import World, function, function_of, giver, known, set_state, state_of
from making import ALL_FAULTS, FUNCTIONS, class_under, each_kind

KIND = ("fault", "KindFault")
NONE = ("none",)
ONE, TWO, THREE = ("number", 1), ("number", 2), ("number", 3)
SOME = tuple(("number", k) for k in range(100, 107))
DEFAULTS = tuple(("text", f"d{k}") for k in range(6))


class InAWorld(unittest.TestCase):
    def setUp(self):
        self.world = World([5, 6])

    def called(self, a, *values):
        answer = called(self.world, a, values)
        self.assertIs(type(answer), tuple)
        return answer

    def refused(self, a, *values):
        for _ in range(2):
            self.assertEqual(self.called(a, *values), KIND)
        self.assertEqual((self.world.lines, self.world.left), ([], [5, 6]))

    def made_by(self, kind, *values):
        answer = self.called(kind, *values)
        self.assertEqual((answer[0], len(answer)), ("value", 2))
        return answer[1]

    def told(self, a, name, wanted):
        self.assertEqual(field_of(self.world, a, name), ("value", wanted), name)

    def put(self, a, name, value):
        self.assertEqual(put_field(self.world, a, name, value), ("value", NONE))

    def lacks(self, a, name):
        self.assertEqual(field_of(self.world, a, name), ("fault", "FieldFault"), name)

    def entered(self, a, values, f, slots):
        for _ in range(2):
            answer = self.called(a, *values)
            self.assertEqual(answer, ("enter", f, slots))
            self.assertIs(type(answer[2]), tuple)

    def function(self, params, many=0, gives=False, name="f"):
        return function(self.world, name, params, DEFAULTS[:many], "code", "around", gives)


class OfFunctions(InAWorld):
    def test_each_number_of_params_defaults_and_values(self):
        for gives in (False, True):
            for params in range(6):
                for many in range(params + 1):
                    f = self.function(params, many, gives)
                    for given in range(7):
                        if params - many <= given <= params:
                            slots = SOME[:given] + DEFAULTS[many - (params - given):many]
                            self.entered(f, SOME[:given], f, slots)
                        else:
                            self.refused(f, *SOME[:given])

    def test_values_come_first_and_the_last_defaults_behind(self):
        f = self.function(4, 3)
        self.entered(f, (ONE,), f, (ONE,) + DEFAULTS[:3])
        self.entered(f, (ONE, TWO), f, (ONE, TWO) + DEFAULTS[1:3])
        self.entered(f, (ONE, TWO, THREE), f, (ONE, TWO, THREE, DEFAULTS[2]))
        self.entered(f, (ONE, TWO, THREE, NONE), f, (ONE, TWO, THREE, NONE))
        self.refused(f)
        self.refused(f, ONE, TWO, THREE, NONE, ONE)

    def test_without_params(self):
        f = self.function(0)
        self.entered(f, (), f, ())
        self.refused(f, NONE)

    def test_none_that_is_handed_in_is_no_lack(self):
        f = self.function(1, 1)
        self.entered(f, (NONE,), f, (NONE,))
        self.entered(f, (), f, DEFAULTS[:1])

    def test_one_with_a_yield_is_entered_too_and_no_giver_is_made(self):
        f = self.function(2, 1, True)
        self.entered(f, (ONE,), f, (ONE, DEFAULTS[0]))
        self.entered(f, (ONE, TWO), f, (ONE, TWO))
        self.refused(f)
        self.refused(f, ONE, TWO, THREE)

    def test_values_of_each_kind_as_they_are(self):
        f = self.function(2)
        for value in each_kind(self.world).values():
            self.entered(f, (value, f), f, (value, f))

    def test_defaults_that_are_things(self):
        kinds = tuple(each_kind(self.world).values())[-3:]
        f = function(self.world, "f", 3, kinds, "code", "around", False)
        self.entered(f, (), f, kinds)
        self.entered(f, (ONE,), f, (ONE,) + kinds[1:])

    def test_the_function_stays_as_it_was(self):
        code, around = [1], {"a": [2]}
        f = function(self.world, "f", 2, DEFAULTS[:1], code, around, False)
        self.entered(f, (ONE,), f, (ONE, DEFAULTS[0]))
        self.refused(f)
        told = function_of(self.world, f)
        self.assertEqual(told, ("f", 2, DEFAULTS[:1], [1], {"a": [2]}, False))
        self.assertIs(told[3], code)
        self.assertIs(told[4], around)

    def test_the_tuple_that_is_handed_in_stays(self):
        values, f = (ONE, TWO), self.function(3, 1)
        called(self.world, f, values)
        self.assertEqual(values, (ONE, TWO))

    def test_two_of_one_name(self):
        one, other = self.function(0), self.function(1)
        self.entered(one, (), one, ())
        self.entered(other, (ONE,), other, (ONE,))
        self.refused(other)

    def test_one_with_a_given_ones_name(self):
        f = self.function(0, name="say")
        self.entered(f, (), f, ())
        self.refused(f, ONE)


class OfMethods(InAWorld):
    def method(self, f):
        one = self.made_by(class_under(self.world, "A", (), {"m": f}))
        return one, field_of(self.world, one, "m")[1]

    def test_the_object_comes_first(self):
        for gives in (False, True):
            for params in range(6):
                for many in range(params + 1):
                    f = self.function(params, many, gives)
                    one, method = self.method(f)
                    for given in range(7):
                        if params - many <= given + 1 <= params:
                            slots = (one,) + SOME[:given] + DEFAULTS[many - (params - given - 1):many]
                            self.entered(method, SOME[:given], f, slots)
                        else:
                            self.refused(method, *SOME[:given])

    def test_of_a_function_without_params(self):
        method = self.method(self.function(0))[1]
        self.refused(method)
        self.refused(method, ONE)

    def test_with_defaults(self):
        f = self.function(2, 2)
        one, method = self.method(f)
        self.entered(method, (), f, (one, DEFAULTS[1]))
        self.entered(method, (ONE,), f, (one, ONE))
        self.refused(method, ONE, TWO)

    def test_by_a_view(self):
        f = self.function(2)
        top = class_under(self.world, "Top", (), {"m": f})
        kind = class_under(self.world, "A", (top,), {"m": self.function(1)})
        one = self.made_by(kind)
        view = self.made_by(known(self.world, "elder"), kind, one)
        self.entered(field_of(self.world, view, "m")[1], (ONE,), f, (one, ONE))

    def test_two_objects_of_one_class(self):
        f = self.function(1)
        kind = class_under(self.world, "A", (), {"m": f})
        one, other = self.made_by(kind), self.made_by(kind)
        methods = [field_of(self.world, a, "m")[1] for a in (one, other)]
        self.entered(methods[0], (), f, (one,))
        self.entered(methods[1], (), f, (other,))

    def test_one_that_was_put_elsewhere(self):
        f = self.function(1)
        one, method = self.method(f)
        other = self.made_by(known(self.world, "Thing"))
        self.put(other, "m", method)
        self.entered(field_of(self.world, other, "m")[1], (), f, (one,))

    def test_a_function_of_the_objects_own_is_no_method(self):
        f = self.function(1)
        one = self.made_by(known(self.world, "Thing"))
        self.put(one, "m", f)
        self.entered(field_of(self.world, one, "m")[1], (ONE,), f, (ONE,))


class OfClasses(InAWorld):
    def started(self, kind, f, *values):
        answer = self.called(kind, *values)
        self.assertEqual((answer[0], len(answer)), ("start", 4))
        self.assertEqual(answer[3], values)
        self.assertIs(type(answer[3]), tuple)
        self.assertEqual(text_of(self.world, answer[2]), "method " + function_of(self.world, f)[0])
        if len(values) + 1 == function_of(self.world, f)[1]:
            self.entered(answer[2], values, f, (answer[1],) + values)
        return answer[1]

    def test_an_object_unlike_all_ahead(self):
        ahead = list(each_kind(self.world).values())
        kind = class_under(self.world, "Adder")
        for _ in range(5):
            one = self.made_by(kind)
            self.assertNotIn(one, ahead)
            self.assertEqual(one[0], "thing")
            self.assertEqual(text_of(self.world, one), "a Adder")
            ahead.append(one)

    def test_without_start_no_values(self):
        kind = class_under(self.world, "A", (), {"a": ONE})
        for many in range(1, 5):
            self.refused(kind, *SOME[:many])
        self.refused(kind, NONE)
        self.told(self.made_by(kind), "a", ONE)

    def test_fields_of_the_class_are_found_and_own_ones_put(self):
        kind = class_under(self.world, "A", (), {"a": ONE})
        one, other = self.made_by(kind), self.made_by(kind)
        self.put(one, "a", TWO)
        self.put(one, "b", TWO)
        self.told(one, "a", TWO)
        self.told(other, "a", ONE)
        self.lacks(other, "b")
        for name in ("word", "cause", "context", "start"):
            self.lacks(one, name)

    def test_start_with_any_number_of_values(self):
        for params in range(5):
            for gives in (False, True):
                f = self.function(params, 0, gives)
                kind = class_under(self.world, "A", (), {"start": f})
                for many in range(6):
                    one = self.started(kind, f, *SOME[:many])
                    self.assertEqual(text_of(self.world, one), "a A")

    def test_start_is_a_method_of_the_object_that_is_told(self):
        f = self.function(2, 1)
        kind = class_under(self.world, "A", (), {"start": f})
        answer = self.called(kind)
        self.entered(answer[2], (), f, (answer[1], DEFAULTS[0]))
        self.entered(answer[2], (ONE,), f, (answer[1], ONE))
        self.refused(answer[2], ONE, TWO)
        self.assertNotEqual(self.called(kind)[1], answer[1])

    def test_nothing_is_called_yet(self):
        kind = class_under(self.world, "A", (), {"start": self.function(0)})
        self.assertEqual(self.called(kind, ONE, TWO)[0], "start")
        self.assertEqual((self.world.lines, self.world.left), ([], [5, 6]))

    def test_start_of_an_elder(self):
        f, g = self.function(1), self.function(2, name="g")
        top = class_under(self.world, "Top", (), {"start": f})
        self.started(class_under(self.world, "A", (top,)), f)
        self.started(class_under(self.world, "A", (top,), {"start": g}), g, ONE)
        left = class_under(self.world, "Left", (top,))
        right = class_under(self.world, "Right", (top,), {"start": g})
        self.started(class_under(self.world, "Both", (left, right)), g, ONE)

    def test_start_that_is_anything_else(self):
        for word, value in each_kind(self.world).items():
            if word not in ("function", "giving function", "method"):
                top = class_under(self.world, "Top", (), {"start": value})
                lower = class_under(self.world, "A", (top,))
                fault = class_under(self.world, "Bite", ("Fault",), {"start": value})
                for kind in (top, lower, fault):
                    for many in range(3):
                        self.refused(kind, *SOME[:many])

    def test_start_that_is_a_given_one(self):
        for name in FUNCTIONS + ("Thing", "Fault"):
            kind = class_under(self.world, "A", (), {"start": known(self.world, name)})
            for many in range(3):
                self.refused(kind, *SOME[:many])

    def test_start_that_is_another_objects_method(self):
        f = self.function(1)
        one = self.made_by(class_under(self.world, "A", (), {"m": f}))
        kind = class_under(self.world, "B", (), {"start": field_of(self.world, one, "m")[1]})
        answer = self.called(kind, ONE)
        self.assertEqual((answer[0], answer[3]), ("start", (ONE,)))
        self.assertEqual(text_of(self.world, answer[1]), "a B")
        self.entered(answer[2], (), f, (one,))

    def test_an_elders_start_is_hidden_by_what_is_none(self):
        top = class_under(self.world, "Top", (), {"start": self.function(1)})
        self.refused(class_under(self.world, "A", (top,), {"start": NONE}))

    def test_start_that_was_put_later(self):
        f, kind = self.function(1), class_under(self.world, "A")
        one = self.made_by(kind)
        self.put(one, "start", ONE)
        self.made_by(kind)
        self.put(kind, "start", f)
        self.started(kind, f)
        self.put(kind, "start", ONE)
        self.refused(kind)

    def test_thing(self):
        thing = known(self.world, "Thing")
        one, other = self.made_by(thing), self.made_by(thing)
        self.assertNotEqual(one, other)
        self.assertEqual(text_of(self.world, one), "a Thing")
        for name in ("word", "cause", "context"):
            self.lacks(one, name)
        self.refused(thing, ONE)
        self.refused(thing, NONE)
        self.refused(thing, ONE, TWO)
        self.put(one, "a", ONE)
        self.lacks(other, "a")


class OfFaultClasses(InAWorld):
    def fields(self, fault, word, cause=NONE, context=NONE):
        for name, wanted in (("word", word), ("cause", cause), ("context", context)):
            self.told(fault, name, wanted)

    def test_given_ones(self):
        for name in ALL_FAULTS:
            kind = known(self.world, name)
            one, other, third = self.made_by(kind), self.made_by(kind, ONE), self.made_by(kind, NONE)
            self.assertEqual(len({one, other, third}), 3)
            for fault, word in ((one, NONE), (other, ONE), (third, NONE)):
                self.fields(fault, word)
                self.assertIs(is_fault(self.world, fault), True)
                self.assertEqual(text_of(self.world, fault), "a " + name)
                self.assertEqual(names_of(self.world, fault), [name])
            self.refused(kind, ONE, TWO)
            self.refused(kind, NONE, NONE)
            self.refused(kind, ONE, TWO, THREE)

    def test_a_word_of_each_kind(self):
        for value in each_kind(self.world).values():
            self.fields(self.made_by(known(self.world, "EndFault"), value), value)

    def test_own_ones(self):
        bite = class_under(self.world, "Bite", ("EndFault",), {"word": TWO, "cause": TWO, "a": THREE})
        sting = class_under(self.world, "Sting", (class_under(self.world, "Plain"), bite))
        for kind, name in ((bite, "Bite"), (sting, "Sting")):
            for values, word in (((), NONE), ((ONE,), ONE)):
                fault = self.made_by(kind, *values)
                self.fields(fault, word)
                self.told(fault, "a", THREE)
                self.assertEqual(text_of(self.world, fault), "a " + name)
                self.assertEqual(names_of(self.world, fault), [name])
            self.refused(kind, ONE, TWO)
            self.told(kind, "cause", TWO)

    def test_own_ones_with_start(self):
        f = self.function(3)
        bite = class_under(self.world, "Bite", ("KindFault",), {"start": f})
        for kind in (bite, class_under(self.world, "Sting", (bite,))):
            for many in range(4):
                answer = self.called(kind, *SOME[:many])
                self.assertEqual((answer[0], answer[3]), ("start", SOME[:many]))
                self.fields(answer[1], NONE)
                self.assertIs(is_fault(self.world, answer[1]), True)
            answer = self.called(kind, ONE, TWO)
            self.entered(answer[2], (ONE, TWO), f, (answer[1], ONE, TWO))

    def test_each_has_its_own_fields(self):
        kind = known(self.world, "KindFault")
        one, other = self.made_by(kind, ONE), self.made_by(kind)
        bind_raised(self.world, one, other, other)
        self.fields(one, ONE, other, other)
        self.fields(other, NONE)
        self.fields(self.made_by(kind), NONE)
        self.put(other, "word", TWO)
        self.fields(one, ONE, other, other)

    def test_a_class_that_is_called_fault_but_stands_under_thing(self):
        kind = class_under(self.world, "Fault")
        self.refused(kind, ONE)
        one = self.made_by(kind)
        self.lacks(one, "word")
        self.assertIs(is_fault(self.world, one), False)


class OfOthers(InAWorld):
    def test_can_not_be_called(self):
        kinds = each_kind(self.world)
        words = ("number", "nought", "below", "text", "empty", "true", "false", "none", "object", "fault",
                 "given fault", "giver", "count", "view", "fault view")
        for word in words:
            for values in ((), (ONE,), (ONE, TWO), (kinds[word],), (NONE,), SOME[:4]):
                self.refused(kinds[word], *values)

    def test_givers_in_each_state(self):
        for state in ("new", "waits", "goes", "over"):
            g = giver(self.world, "g", "frame")
            set_state(self.world, g, state)
            self.refused(g)
            self.refused(g, ONE)
            self.assertEqual(state_of(self.world, g), state)

    def test_an_object_with_fields_that_could_be_called(self):
        f = self.function(1)
        one = self.made_by(class_under(self.world, "A", (), {"call": f}))
        self.put(one, "start", f)
        self.refused(one)
        self.refused(one, ONE)

    def test_numbers_and_texts_that_look_like_things(self):
        f = self.function(0)
        self.refused(("number", f[1]))
        self.refused(("text", "say"), ONE)


class SideBySide(unittest.TestCase):
    def test_two_worlds(self):
        one, other = World([1]), World([2])
        for _ in range(3):
            called(one, known(one, "say"), (ONE,))
            called(one, known(one, "KindFault"), (ONE,))
        self.assertEqual((other.lines, other.left), ([], [2]))
        kind = class_under(other, "A", (), {"a": TWO})
        first = called(other, kind, ())[1]
        class_under(one, "B")
        self.assertEqual(text_of(other, first), "a A")
        self.assertEqual(called(one, known(one, "take"), ()), ("value", ("number", 1)))
        self.assertEqual(called(other, known(other, "take"), ()), ("value", ("number", 2)))
        self.assertEqual((one.lines, other.lines), (["1", "1", "1"], []))

    def test_the_same_things_in_a_world_of_the_same_calls(self):
        def told(world):
            kind = class_under(world, "A", (), {"start": function(world, "f", 1, (), 0, 0, False)})
            return [called(world, a, values) for a, values in (
                (kind, ()), (known(world, "Fault"), (ONE,)), (known(world, "count"), (TWO,)), (kind, (ONE,)))]
        self.assertEqual(told(World([])), told(World([4])))

    def test_made_and_called_alike(self):
        world = World([])
        by_call = called(world, known(world, "KindFault"), (ONE,))[1]
        by_made = made(world, "KindFault", ONE)
        for name in ("word", "cause", "context"):
            self.assertEqual(field_of(world, by_call, name), field_of(world, by_made, name))


if __name__ == "__main__":
    unittest.main()
