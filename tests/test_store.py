"""The store: worlds, given names, functions and givers with their states."""
import unittest

from grassnake.store import (
    World, frame_of, function, function_of, giver, is_giver, known, new_count, set_state, state_of, thing_of)
from making import GIVEN, each_kind

STATES = ("new", "waits", "goes", "over")


class Worlds(unittest.TestCase):
    def test_lines_and_left_at_first(self):
        for inputs in ([], [0], [3, -1, 10 ** 10], list(range(40)), list(range(60))):
            world = World(inputs)
            self.assertEqual((world.lines, world.left), ([], inputs))
            self.assertIs(type(world.lines), list)
            self.assertIs(type(world.left), list)

    def test_inputs_may_be_changed_behind(self):
        inputs = [1, 2, 3]
        world = World(inputs)
        inputs.append(4)
        inputs[0] = 9
        self.assertEqual(world.left, [1, 2, 3])
        inputs.clear()
        self.assertEqual(world.left, [1, 2, 3])

    def test_inputs_are_not_changed(self):
        inputs = [1, 2, 3]
        world = World(inputs)
        world.left.pop()
        self.assertEqual(inputs, [1, 2, 3])
        self.assertEqual(World(inputs).left, [1, 2, 3])

    def test_two_worlds_know_nothing_of_one_another(self):
        inputs = [1, 2]
        one, other = World(inputs), World(inputs)
        one.lines.append("a")
        one.left.pop()
        self.assertEqual((other.lines, other.left), ([], [1, 2]))
        before = function(other, "f", 0, (), "code", "around", False)
        for k in range(5):
            function(one, "g", k, (), "other code", "other around", True)
        self.assertEqual(function_of(other, before), ("f", 0, (), "code", "around", False))
        first, second = giver(one, "a", "frame"), giver(other, "b", "other frame")
        set_state(one, first, "over")
        self.assertEqual((state_of(one, first), state_of(other, second)), ("over", "new"))
        self.assertEqual((frame_of(one, first), frame_of(other, second)), ("frame", "other frame"))

    def test_a_things_number_hangs_on_its_world_alone(self):
        one = World([])
        for _ in range(7):
            function(one, "f", 0, (), None, None, False)
        fresh, again = World([]), World([5])
        self.assertEqual(function(fresh, "f", 0, (), None, None, False), function(again, "h", 1, (), 1, 1, True))


class Known(unittest.TestCase):
    def setUp(self):
        self.world = World([])

    def test_each_given_name(self):
        for name in GIVEN:
            value = known(self.world, name)
            self.assertEqual(value[0], "thing", name)
            self.assertIs(type(value), tuple)
            self.assertIs(type(value[1]), int)
            self.assertGreaterEqual(value[1], 0)
            self.assertEqual(len(value), 2)

    def test_they_are_apart(self):
        self.assertEqual(len({known(self.world, name) for name in GIVEN}), 20)

    def test_the_same_each_time(self):
        before = [known(self.world, name) for name in GIVEN]
        each_kind(self.world)
        self.assertEqual([known(self.world, name) for name in GIVEN], before)

    def test_names_that_are_not_given(self):
        for name in ("", "x", "Say", "thing", "fault", "Fault2", "start", "word", "print", "None", "True", "Exception",
                     "ValueError", "object", "Snake", "function", "method", "give", "f", "lines", "left"):
            self.assertIsNone(known(self.world, name), name)
        each_kind(self.world)
        for name in ("f", "g", "Snake", "Bite"):
            self.assertIsNone(known(self.world, name), name)


class Functions(unittest.TestCase):
    def setUp(self):
        self.world = World([])

    def test_what_was_handed_in_is_told(self):
        for parts in (
                ("f", 0, (), "code", "around", False),
                ("g", 4, (("number", 1), ("none",)), None, None, True),
                ("abcdefghijkl", 2, (("text", "x"), ("truth", False)), 5, {}, False),
                ("h", 1, (known(self.world, "say"),), (), [], True)):
            a = function(self.world, *parts)
            for _ in range(2):
                told = function_of(self.world, a)
                self.assertEqual(told, parts)
                self.assertIs(type(told), tuple)
                self.assertIs(type(told[2]), tuple)
                self.assertIs(told[5], parts[5])

    def test_code_and_around_are_the_very_things(self):
        code, around = [1, [2]], {"a": []}
        a = function(self.world, "f", 0, (), code, around, False)
        code.append(3)
        around["b"] = code
        told = function_of(self.world, a)
        self.assertIs(told[3], code)
        self.assertIs(told[4], around)
        self.assertEqual(told[3], [1, [2], 3])
        told[3].append(4)
        self.assertEqual(code, [1, [2], 3, 4])

    def test_each_is_new(self):
        many = [function(self.world, "f", 0, (), "code", "around", False) for _ in range(20)]
        self.assertEqual(len(set(many)), 20)
        self.assertFalse(set(many) & {known(self.world, name) for name in GIVEN})

    def test_several_side_by_side(self):
        many = [(function(self.world, f"f{k}", k, (("number", k),), k, -k, k > 2), k) for k in range(5)]
        for a, k in many:
            self.assertEqual(function_of(self.world, a), (f"f{k}", k, (("number", k),), k, -k, k > 2))

    def test_is_a_value(self):
        a = function(self.world, "f", 0, (), "code", "around", False)
        self.assertEqual((a[0], len(a), type(a), type(a[1])), ("thing", 2, tuple, int))


class Givers(unittest.TestCase):
    def setUp(self):
        self.world = World([])

    def test_a_new_one_is_new(self):
        self.assertEqual(state_of(self.world, giver(self.world, "g", "frame")), "new")
        self.assertEqual(state_of(self.world, new_count(self.world, 3)), "new")

    def test_each_is_another(self):
        many = [giver(self.world, "g", "frame") for _ in range(10)] + [new_count(self.world, 3) for _ in range(10)]
        self.assertEqual(len(set(many)), 20)

    def test_each_state(self):
        for g in (giver(self.world, "g", "frame"), new_count(self.world, 0)):
            for state in STATES + STATES[::-1]:
                self.assertIsNone(set_state(self.world, g, state))
                self.assertEqual((state_of(self.world, g), state_of(self.world, g)), (state, state))

    def test_states_of_several(self):
        many = [(giver(self.world, "g", state), state) for state in STATES]
        for g, state in many:
            set_state(self.world, g, state)
        for g, state in many:
            self.assertEqual((state_of(self.world, g), frame_of(self.world, g)), (state, state))
        self.assertEqual(state_of(self.world, giver(self.world, "g", 1)), "new")

    def test_the_frame_is_the_very_thing(self):
        for frame in ([1, [2]], {"a": 1}, (), "", 0, False, [], World([])):
            g = giver(self.world, "g", frame)
            for state in STATES:
                set_state(self.world, g, state)
                self.assertIs(frame_of(self.world, g), frame)
        frame = [1]
        g = giver(self.world, "g", frame)
        frame.append(2)
        self.assertEqual(frame_of(self.world, g), [1, 2])
        frame_of(self.world, g).append(3)
        self.assertEqual(frame, [1, 2, 3])

    def test_a_counts_has_no_frame(self):
        g = new_count(self.world, 2)
        for state in STATES:
            set_state(self.world, g, state)
            self.assertIsNone(frame_of(self.world, g))

    def test_a_counts_numbers(self):
        for many in (-3, 0, 1, 10000):
            thing = thing_of(self.world, new_count(self.world, many))
            self.assertEqual((thing.many, thing.handed), (many, 0))

    def test_is_giver_of_each_kind(self):
        for word, value in each_kind(self.world).items():
            for _ in range(2):
                self.assertIs(is_giver(self.world, value), word in ("giver", "count"), word)
        for name in GIVEN:
            self.assertIs(is_giver(self.world, known(self.world, name)), False, name)

    def test_is_giver_in_each_state(self):
        for g in (giver(self.world, "g", "frame"), new_count(self.world, 0)):
            for state in STATES:
                set_state(self.world, g, state)
                self.assertIs(is_giver(self.world, g), True)

    def test_numbers_are_no_things(self):
        g = giver(self.world, "g", "frame")
        self.assertIs(is_giver(self.world, ("number", g[1])), False)


if __name__ == "__main__":
    unittest.main()
