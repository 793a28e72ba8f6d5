"""Faults: made, raised, bound, caught, and told by their names."""
import unittest

from grassnake.faults import bind_raised, fits, is_fault, made, names_of, raised_of
from grassnake.fields import field_of, put_field, text_of
from grassnake.store import World, known, new_object
from making import ALL_FAULTS, FUNCTIONS, class_under, each_kind

KIND = ("fault", "KindFault")
NONE = ("none",)


class InAWorld(unittest.TestCase):
    def setUp(self):
        self.world = World([])

    def fields(self, fault):
        return tuple(field_of(self.world, fault, name)[1] for name in ("word", "cause", "context"))

    def put(self, fault, name, value):
        self.assertEqual(put_field(self.world, fault, name, value), ("value", NONE))


class Made(InAWorld):
    def test_without_a_word(self):
        for name in ALL_FAULTS:
            one = made(self.world, name)
            self.assertEqual(self.fields(one), (NONE, NONE, NONE))
            self.assertEqual(text_of(self.world, one), "a " + name)
            self.assertEqual(self.fields(made(self.world, name, None)), (NONE, NONE, NONE))

    def test_with_a_word(self):
        for word in each_kind(self.world).values():
            for name in ("EndFault", "Fault"):
                self.assertEqual(self.fields(made(self.world, name, word)), (word, NONE, NONE))
        self.assertEqual(self.fields(made(self.world, "EndFault", word=("number", 0))), (("number", 0), NONE, NONE))

    def test_each_is_new(self):
        many = [made(self.world, "EndFault") for _ in range(10)]
        self.assertEqual(len(set(many)), 10)
        self.put(many[0], "word", ("number", 1))
        self.assertEqual(self.fields(many[1]), (NONE, NONE, NONE))

    def test_of_thing(self):
        one = made(self.world, "Thing")
        self.assertEqual(text_of(self.world, one), "a Thing")
        self.assertEqual(field_of(self.world, one, "word"), ("fault", "FieldFault"))
        self.assertIs(is_fault(self.world, one), False)

    def test_of_the_given_class(self):
        """Whatever else bears its name."""
        class_under(self.world, "KindFault")
        one = made(self.world, "KindFault")
        self.assertEqual(fits(self.world, one, known(self.world, "KindFault")), ("value", ("truth", True)))


class WhatIsAFault(InAWorld):
    def test_is_fault_of_each_kind(self):
        for word, value in each_kind(self.world).items():
            for _ in range(2):
                self.assertIs(is_fault(self.world, value), word in ("fault", "given fault"), word)

    def test_is_fault_of_given_classes_objects(self):
        for name in ALL_FAULTS:
            self.assertIs(is_fault(self.world, made(self.world, name)), True, name)
            self.assertIs(is_fault(self.world, known(self.world, name)), False, name)

    def test_is_fault_of_other_classes_objects(self):
        plain = class_under(self.world, "Fault")
        mixed = class_under(self.world, "Mixed", (plain, "Fault"))
        self.assertIs(is_fault(self.world, new_object(self.world, plain)), False)
        self.assertIs(is_fault(self.world, new_object(self.world, mixed)), True)
        self.assertEqual(self.fields(new_object(self.world, mixed)), (NONE, NONE, NONE))

    def test_raised_of_each_kind(self):
        for word, value in each_kind(self.world).items():
            wanted = KIND
            if word in ("fault", "given fault"):
                wanted = ("value", value)
            elif word in ("fault class", "Fault", "EndFault"):
                wanted = ("call", value)
            for _ in range(2):
                self.assertEqual(raised_of(self.world, value), wanted, word)

    def test_raised_of_given_ones(self):
        for name in ALL_FAULTS:
            one, kind = made(self.world, name), known(self.world, name)
            self.assertEqual(raised_of(self.world, one), ("value", one))
            self.assertEqual(raised_of(self.world, kind), ("call", kind))
        self.assertEqual(raised_of(self.world, known(self.world, "Thing")), KIND)
        self.assertEqual(raised_of(self.world, made(self.world, "Thing")), KIND)
        for name in FUNCTIONS:
            self.assertEqual(raised_of(self.world, known(self.world, name)), KIND)

    def test_raised_of_binds_nothing(self):
        one = made(self.world, "Fault", ("number", 3))
        self.put(one, "cause", ("number", 4))
        raised_of(self.world, one)
        self.assertEqual(self.fields(one), (("number", 3), ("number", 4), NONE))


class BindRaised(InAWorld):
    def setUp(self):
        InAWorld.setUp(self)
        self.one, self.other = made(self.world, "KindFault", ("number", 5)), made(self.world, "EndFault")

    def bound(self, fault, cause, held, wanted):
        for _ in range(2):
            self.assertIsNone(bind_raised(self.world, fault, cause, held))
            self.assertEqual(self.fields(fault)[1:], wanted)

    def test_without_a_cause(self):
        self.bound(self.one, NONE, None, (NONE, NONE))
        self.bound(self.one, NONE, self.other, (NONE, self.other))

    def test_with_a_cause(self):
        third = made(self.world, "DeepFault")
        self.bound(self.one, third, None, (third, NONE))
        self.bound(self.one, third, self.other, (third, self.other))
        self.bound(self.one, self.other, self.other, (self.other, self.other))

    def test_held_itself(self):
        self.bound(self.one, NONE, self.one, (NONE, NONE))
        self.bound(self.one, self.other, self.one, (self.other, NONE))
        self.bound(self.one, self.one, self.one, (self.one, NONE))

    def test_its_own_cause(self):
        self.bound(self.one, self.one, None, (self.one, NONE))

    def test_what_was_bound_ahead_is_bound_anew(self):
        self.bound(self.one, self.other, self.other, (self.other, self.other))
        self.bound(self.one, NONE, None, (NONE, NONE))
        self.bound(self.one, self.other, self.other, (self.other, self.other))
        self.bound(self.one, NONE, self.one, (NONE, NONE))

    def test_the_word_and_other_fields_stay(self):
        self.put(self.one, "more", ("number", 6))
        self.bound(self.one, self.other, self.other, (self.other, self.other))
        self.assertEqual(self.fields(self.one)[0], ("number", 5))
        self.assertEqual(field_of(self.world, self.one, "more"), ("value", ("number", 6)))

    def test_nothing_is_bound_of_cause_and_held(self):
        third = made(self.world, "DeepFault", ("number", 1))
        self.bound(self.one, third, self.other, (third, self.other))
        self.assertEqual(self.fields(third), (("number", 1), NONE, NONE))
        self.assertEqual(self.fields(self.other), (NONE, NONE, NONE))

    def test_of_a_class_of_its_own(self):
        fang = new_object(self.world, class_under(self.world, "Bite", ("EndFault",), {"context": ("number", 1)}))
        self.bound(fang, self.one, self.other, (self.one, self.other))
        self.bound(fang, NONE, fang, (NONE, NONE))


class Fits(InAWorld):
    def told(self, fault, a, wanted):
        for _ in range(2):
            answer = fits(self.world, fault, a)
            self.assertEqual(answer, wanted)
            if wanted != KIND:
                self.assertIs(answer[1][1], wanted[1][1])

    def test_given_ones(self):
        for name in ALL_FAULTS:
            for other in ALL_FAULTS:
                wanted = other in (name, "Fault") or (name, other) == ("UnboundFault", "NameFault")
                self.told(made(self.world, name), known(self.world, other), ("value", ("truth", wanted)))

    def test_own_ones(self):
        bite = class_under(self.world, "Bite", ("EndFault",))
        sting = class_under(self.world, "Sting", (bite, "ShutFault"))
        for kind, fitting in ((bite, (bite, "EndFault", "Fault")),
                              (sting, (sting, bite, "EndFault", "ShutFault", "Fault"))):
            fault = new_object(self.world, kind)
            for a in ALL_FAULTS + (bite, sting):
                value = known(self.world, a) if isinstance(a, str) else a
                self.told(fault, value, ("value", ("truth", a in fitting)))

    def test_another_class_of_the_same_name(self):
        one, other = class_under(self.world, "A", ("Fault",)), class_under(self.world, "A", ("Fault",))
        self.told(new_object(self.world, one), other, ("value", ("truth", False)))

    def test_no_class_under_fault(self):
        plain = class_under(self.world, "Plain")
        mixed = class_under(self.world, "Mixed", (plain, "Fault"))
        for fault in (made(self.world, "Fault"), new_object(self.world, mixed)):
            for word, value in each_kind(self.world).items():
                if word not in ("fault class", "Fault", "EndFault"):
                    self.told(fault, value, KIND)
            for name in FUNCTIONS + ("Thing",):
                self.told(fault, known(self.world, name), KIND)
            self.told(fault, plain, KIND)
            self.told(fault, fault, KIND)


class Names(InAWorld):
    def told(self, fault, *wanted):
        for _ in range(2):
            answer = names_of(self.world, fault)
            self.assertEqual(answer, list(wanted))
            self.assertIs(type(answer), list)

    def chain(self, many, field):
        """So many faults, each one the field of the one ahead of it."""
        faults = [made(self.world, ALL_FAULTS[k % len(ALL_FAULTS)]) for k in range(many)]
        for one, behind in zip(faults, faults[1:]):
            self.put(one, field, behind)
        return faults

    def test_alone(self):
        for name in ALL_FAULTS:
            self.told(made(self.world, name), name)
        self.told(new_object(self.world, class_under(self.world, "Bite", ("KindFault",))), "Bite")

    def test_a_cause_and_a_context(self):
        one, other = made(self.world, "KindFault"), made(self.world, "EndFault")
        self.put(one, "context", other)
        self.told(one, "KindFault", "EndFault")
        self.put(one, "cause", made(self.world, "DeepFault"))
        self.told(one, "KindFault", "DeepFault")
        self.put(one, "context", NONE)
        self.told(one, "KindFault", "DeepFault")

    def test_and_so_on(self):
        one, two, three, four = [made(self.world, name) for name in ("Fault", "EndFault", "KindFault", "DeepFault")]
        self.put(one, "cause", two)
        self.put(one, "context", four)
        self.put(two, "context", three)
        self.put(three, "cause", four)
        self.told(one, "Fault", "EndFault", "KindFault", "DeepFault")

    def test_those_that_are_no_faults(self):
        for word, value in each_kind(self.world).items():
            if word not in ("fault", "given fault"):
                one = made(self.world, "KindFault")
                self.put(one, "cause", value)
                self.told(one, "KindFault")
                self.put(one, "context", value)
                self.told(one, "KindFault")
                self.put(one, "context", made(self.world, "EndFault"))
                self.told(one, "KindFault", "EndFault")

    def test_the_word_is_no_cause(self):
        self.told(made(self.world, "KindFault", made(self.world, "EndFault")), "KindFault")

    def test_round_about(self):
        one, other = made(self.world, "KindFault"), made(self.world, "EndFault")
        self.put(one, "cause", one)
        self.told(one, *["KindFault"] * 8)
        self.put(one, "cause", other)
        self.put(other, "context", one)
        self.told(one, *["KindFault", "EndFault"] * 4)
        self.told(other, *["EndFault", "KindFault"] * 4)

    def test_eight_and_more(self):
        for field in ("cause", "context"):
            for many in (7, 8, 9, 10):
                faults = self.chain(many, field)
                self.told(faults[0], *ALL_FAULTS[:min(many, 8)])

    def test_what_is_told_is_the_askers_own(self):
        one = made(self.world, "KindFault")
        names_of(self.world, one).append("more")
        self.told(one, "KindFault")

    def test_by_bind_raised(self):
        one, other = made(self.world, "KindFault"), made(self.world, "EndFault")
        bind_raised(self.world, one, NONE, other)
        self.told(one, "KindFault", "EndFault")
        bind_raised(self.world, one, NONE, one)
        self.told(one, "KindFault")


if __name__ == "__main__":
    unittest.main()
