"""Givers: calls of go, throw and shut, what a for's asking is, and how a count's giver goes on."""
import unittest

from grassnake.calls import asked, called, counted_on
from grassnake.faults import bind_raised, made, names_of
from grassnake.fields import field_of, put_field
from grassnake.store import World, frame_of, giver, known, set_state, state_of
from making import ALL_FAULTS, class_under, each_kind

KIND = ("fault", "KindFault")
END = ("fault", "EndFault")
NONE = ("none",)
ONE, TWO = ("number", 1), ("number", 2)
STATES = ("new", "waits", "goes", "over")
WANTING = (("number", 0), ("text", ""), ("truth", False))


class InAWorld(unittest.TestCase):
    def setUp(self):
        self.world = World([5])
        self.frame = ["frame"]

    def count(self, many):
        answer = called(self.world, known(self.world, "count"), (("number", many),))
        self.assertEqual(answer[0], "value")
        return answer[1]

    def both(self, state):
        """A def's giver and a count's in this state."""
        found = (giver(self.world, "g", self.frame), self.count(3))
        for g in found:
            set_state(self.world, g, state)
        return found

    def told(self, wanted, g, state, name, *values):
        """What a call of the given function tells, each time; and the state behind it."""
        for _ in range(2):
            answer = called(self.world, known(self.world, name), values)
            self.assertEqual(answer, wanted)
            self.assertIs(type(answer), tuple)
            self.assertEqual(state_of(self.world, g), state)
        self.assertEqual((self.world.lines, self.world.left), ([], [5]))

    def fields(self, fault):
        return tuple(field_of(self.world, fault, name)[1] for name in ("word", "cause", "context"))

    def others(self):
        return [value for word, value in each_kind(self.world).items() if word not in ("giver", "count")]


class Go(InAWorld):
    def test_without_a_value(self):
        for state, of_which in (("new", True), ("waits", True), ("goes", False), ("over", None)):
            for g in self.both(state):
                wanted = END if of_which is None else ("go", g, NONE) if of_which else KIND
                self.told(wanted, g, state, "go", g)

    def test_none_handed_in_is_as_without(self):
        for state in ("new", "waits"):
            for g in self.both(state):
                self.told(("go", g, NONE), g, state, "go", g, NONE)
        for g in self.both("goes"):
            self.told(KIND, g, "goes", "go", g, NONE)
        for g in self.both("over"):
            self.told(END, g, "over", "go", g, NONE)

    def test_a_value_to_one_that_waits(self):
        values = list(each_kind(self.world).values())
        for g in self.both("waits"):
            for value in values:
                self.told(("go", g, value), g, "waits", "go", g, value)
            self.told(("go", g, g), g, "waits", "go", g, g)

    def test_a_value_to_one_that_has_not_begun(self):
        values = [value for word, value in each_kind(self.world).items() if word != "none"]
        own, count = self.both("new")
        for value in values:
            self.told(KIND, own, "new", "go", own, value)
            self.told(("go", count, value), count, "new", "go", count, value)

    def test_wanting_values_are_values(self):
        own = self.both("new")[0]
        for value in WANTING:
            self.told(KIND, own, "new", "go", own, value)

    def test_a_value_to_one_that_is_over_or_goes(self):
        for value in (ONE,) + WANTING:
            for g in self.both("over"):
                self.told(END, g, "over", "go", g, value)
            for g in self.both("goes"):
                self.told(KIND, g, "goes", "go", g, value)

    def test_frames_that_are_wanting_are_frames(self):
        for frame in ((), [], "", 0, False, {}):
            g = giver(self.world, "count", frame)
            self.told(KIND, g, "new", "go", g, ONE)
            self.told(("go", g, NONE), g, "new", "go", g)
            self.assertIs(frame_of(self.world, g), frame)

    def test_no_giver(self):
        g = self.both("waits")[0]
        for value in self.others():
            self.told(KIND, g, "waits", "go", value)
            self.told(KIND, g, "waits", "go", value, NONE)
            self.told(KIND, g, "waits", "go", value, g)

    def test_each_time_behind_the_end(self):
        for g in self.both("over"):
            for _ in range(4):
                self.told(END, g, "over", "go", g)


class Throw(InAWorld):
    def test_each_state(self):
        fault = made(self.world, "NameFault", ONE)
        for state in STATES:
            for g in self.both(state):
                wanted = {"goes": KIND, "over": ("raise", fault)}.get(state, ("throw", g, fault))
                self.told(wanted, g, state, "throw", g, fault)

    def test_each_class_of_fault(self):
        bite = class_under(self.world, "Bite", ("EndFault",))
        sting = class_under(self.world, "Sting", ("ShutFault",))
        faults = [made(self.world, name) for name in ALL_FAULTS] + [called(self.world, a, ())[1] for a in (bite, sting)]
        for fault in faults:
            for state in ("new", "waits"):
                for g in self.both(state):
                    self.told(("throw", g, fault), g, state, "throw", g, fault)
            for g in self.both("over"):
                self.told(("raise", fault), g, "over", "throw", g, fault)

    def test_nothing_is_bound(self):
        fault, other = made(self.world, "NameFault", ONE), made(self.world, "EndFault")
        bind_raised(self.world, fault, TWO, other)
        for state in STATES:
            for g in self.both(state):
                called(self.world, known(self.world, "throw"), (g, fault))
                self.assertEqual(self.fields(fault), (ONE, TWO, other))
        self.assertEqual(names_of(self.world, fault), ["NameFault", "EndFault"])
        self.assertEqual(self.fields(other), (NONE, NONE, NONE))

    def test_no_fault(self):
        kinds = each_kind(self.world)
        wrong = [value for word, value in kinds.items() if word not in ("fault", "given fault")]
        wrong.append(made(self.world, "Thing"))
        for state in STATES:
            for g in self.both(state):
                for value in wrong:
                    self.told(KIND, g, state, "throw", g, value)

    def test_no_giver(self):
        g, fault = self.both("waits")[0], made(self.world, "Fault")
        for value in self.others():
            self.told(KIND, g, "waits", "throw", value, fault)
            self.told(KIND, g, "waits", "throw", value, value)
        self.told(KIND, g, "waits", "throw", fault, g)


class Shut(InAWorld):
    def test_one_that_has_not_begun_is_over_then(self):
        for g in self.both("new"):
            self.told(("value", NONE), g, "over", "shut", g)
            self.told(END, g, "over", "go", g)
            self.assertEqual(asked(self.world, g), ("over",))
            fault = made(self.world, "Fault")
            self.told(("raise", fault), g, "over", "throw", g, fault)

    def test_one_that_waits(self):
        for g in self.both("waits"):
            self.told(("shut", g), g, "waits", "shut", g)

    def test_one_that_goes(self):
        for g in self.both("goes"):
            self.told(KIND, g, "goes", "shut", g)

    def test_one_that_is_over(self):
        for g in self.both("over"):
            self.told(("value", NONE), g, "over", "shut", g)

    def test_no_giver(self):
        g = self.both("new")[0]
        for value in self.others():
            self.told(KIND, g, "new", "shut", value)

    def test_others_stay_as_they_were(self):
        for state in STATES:
            one, other = giver(self.world, "g", self.frame), giver(self.world, "g", self.frame)
            set_state(self.world, other, state)
            called(self.world, known(self.world, "shut"), (one,))
            self.assertEqual((state_of(self.world, one), state_of(self.world, other)), ("over", state))


class Asked(InAWorld):
    def test_each_state(self):
        for state in STATES:
            for g in self.both(state):
                wanted = {"goes": KIND, "over": ("over",)}.get(state, ("go", g, NONE))
                for _ in range(2):
                    answer = asked(self.world, g)
                    self.assertEqual(answer, wanted)
                    self.assertIs(type(answer), tuple)
                    self.assertEqual(state_of(self.world, g), state)

    def test_no_giver(self):
        for value in self.others():
            self.assertEqual(asked(self.world, value), KIND)

    def test_the_frame_is_the_very_thing(self):
        for state in STATES:
            own, count = self.both(state)
            asked(self.world, own)
            for name in ("go", "shut"):
                called(self.world, known(self.world, name), (own,))
            called(self.world, known(self.world, "throw"), (own, made(self.world, "Fault")))
            self.assertIs(frame_of(self.world, own), self.frame)
            self.assertEqual(self.frame, ["frame"])
            self.assertIsNone(frame_of(self.world, count))

    def test_asking_takes_no_number(self):
        g = self.count(2)
        for _ in range(3):
            asked(self.world, g)
            called(self.world, known(self.world, "go"), (g, ONE))
        self.assertEqual(counted_on(self.world, g), ("value", ("number", 0)))


class CountedOn(InAWorld):
    def gone(self, g):
        set_state(self.world, g, "goes")
        answer = counted_on(self.world, g)
        self.assertIs(type(answer), tuple)
        return answer

    def test_one_by_one_to_the_end(self):
        for many in (1, 2, 3, 7):
            g = self.count(many)
            for k in range(many):
                self.assertEqual(asked(self.world, g), ("go", g, NONE))
                self.assertEqual(self.gone(g), ("value", ("number", k)))
                self.assertEqual(state_of(self.world, g), "waits")
            for _ in range(2):
                self.assertEqual(self.gone(g), ("over",))
                self.assertEqual(state_of(self.world, g), "over")
            self.assertEqual(asked(self.world, g), ("over",))
            self.told(END, g, "over", "go", g)

    def test_right_from_new_and_waits(self):
        g = self.count(2)
        self.assertEqual([counted_on(self.world, g) for _ in range(3)],
                         [("value", ("number", 0)), ("value", ("number", 1)), ("over",)])
        self.assertEqual(state_of(self.world, g), "over")

    def test_of_none_and_below(self):
        for many in (0, -1, -10 ** 30):
            g = self.count(many)
            self.assertEqual(state_of(self.world, g), "new")
            self.assertEqual(self.gone(g), ("over",))
            self.assertEqual(state_of(self.world, g), "over")

    def test_ten_thousand(self):
        g = self.count(10000)
        numbers = [self.gone(g) for _ in range(10000)]
        self.assertEqual(numbers, [("value", ("number", k)) for k in range(10000)])
        self.assertEqual(state_of(self.world, g), "waits")
        self.assertEqual(self.gone(g), ("over",))

    def test_several_side_by_side(self):
        one, other = self.count(2), self.count(3)
        order = [one, other, other, one, one, other, other]
        self.assertEqual([self.gone(g) for g in order], [
            ("value", ("number", 0)), ("value", ("number", 0)), ("value", ("number", 1)), ("value", ("number", 1)),
            ("over",), ("value", ("number", 2)), ("over",)])

    def test_what_is_handed_in_is_let_go(self):
        g = self.count(2)
        for value, k in ((("text", "a"), 0), (NONE, 1)):
            self.assertEqual(called(self.world, known(self.world, "go"), (g, value)), ("go", g, value))
            self.assertEqual(self.gone(g), ("value", ("number", k)))

    def test_two_worlds(self):
        other = World([])
        there = called(other, known(other, "count"), (TWO,))[1]
        here = self.count(2)
        self.assertEqual(here, there)
        self.gone(here)
        self.assertEqual((state_of(self.world, here), state_of(other, there)), ("waits", "new"))
        self.assertEqual(counted_on(other, there), ("value", ("number", 0)))
        called(other, known(other, "shut"), (giver(other, "g", 1),))
        self.assertEqual(self.gone(here), ("value", ("number", 1)))

    def test_frame_and_fields(self):
        g = self.count(2)
        self.gone(g)
        self.assertIsNone(frame_of(self.world, g))
        self.assertEqual(field_of(self.world, g, "handed"), ("fault", "FieldFault"))
        self.assertEqual(put_field(self.world, g, "handed", ONE), ("fault", "FieldFault"))


class Turns(InAWorld):
    """In which turn a call of go, throw and shut is looked at."""

    def test_kinds_ahead_of_all(self):
        own, count = self.both("over")
        for g in (own, count):
            self.told(KIND, g, "over", "throw", g, ONE)
            self.told(KIND, g, "over", "throw", g, known(self.world, "Fault"))
            self.told(KIND, g, "over", "go", g, NONE, NONE)
            self.told(KIND, g, "over", "shut", g, NONE)

    def test_over_ahead_of_a_value_that_is_handed_in(self):
        g = giver(self.world, "g", self.frame)
        self.told(KIND, g, "new", "go", g, ONE)
        set_state(self.world, g, "over")
        self.told(END, g, "over", "go", g, ONE)

    def test_states_are_left_to_whoever_runs_it(self):
        for state in ("new", "waits"):
            for g in self.both(state):
                fault = made(self.world, "EndFault")
                self.told(("go", g, NONE), g, state, "go", g)
                self.told(("throw", g, fault), g, state, "throw", g, fault)


if __name__ == "__main__":
    unittest.main()
