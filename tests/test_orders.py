"""Orders: merging, the orders of classes by their elders, and their faults."""
import itertools
import random
import unittest

from grassnake.fields import field_of, put_field, text_of
from grassnake.orders import class_of, merged, order_of
from grassnake.store import World, known
from making import FAULTS, FUNCTIONS, class_under, each_kind

KIND = ("fault", "KindFault")
ORDER = ("fault", "OrderFault")


class Merged(unittest.TestCase):
    def told(self, rows, wanted):
        before = [list(row) for row in rows]
        for _ in range(2):
            answer = merged(rows)
            self.assertEqual(answer, wanted, rows)
            if wanted is not None:
                self.assertIs(type(answer), list)
                self.assertTrue(all(type(one) is type(other) for one, other in zip(answer, wanted)), answer)
        self.assertEqual(rows, before)

    def test_no_lists(self):
        self.told([], [])
        self.told([[]], [])
        self.told([[], [], []], [])

    def test_one(self):
        self.told([[1]], [1])
        self.told([[3, 1, 2]], [3, 1, 2])
        self.told([[], ["a", "b"], []], ["a", "b"])

    def test_several(self):
        self.told([[1, 2], [3, 4]], [1, 2, 3, 4])
        self.told([[3, 4], [1, 2]], [3, 4, 1, 2])
        self.told([[1, 9], [2, 9]], [1, 2, 9])
        self.told([[1, 9], [2, 9], [1, 2]], [1, 2, 9])
        self.told([[1, 9], [2, 9], [2, 1]], [2, 1, 9])
        self.told([[2], [1, 2]], [1, 2])
        self.told([[1, 2, 3], [2, 3], [3]], [1, 2, 3])
        self.told([[1, 2], [1, 2], [1, 2]], [1, 2])

    def test_the_first_head_that_is_free(self):
        self.told([[2, 3], [1, 2], [4]], [1, 2, 3, 4])
        self.told([[3, 5], [4, 5], [1, 4], [2, 3]], [1, 4, 2, 3, 5])
        # Once the head that stood in the way is taken, it is looked for from the first list on again.
        self.told([[2, 8], [1, 2], [3]], [1, 2, 8, 3])

    def test_of_the_book(self):
        a, b, c = ["a", "o"], ["b", "o"], ["c", "o"]
        d, e = ["d", "o"], ["e", "o"]
        k1 = ["k1"] + merged([a, b, c, ["a", "b", "c"]])
        k2 = ["k2"] + merged([d, b, e, ["d", "b", "e"]])
        k3 = ["k3"] + merged([d, a, ["d", "a"]])
        self.assertEqual(merged([k1, k2, k3, ["k1", "k2", "k3"]]),
                         ["k1", "k2", "k3", "d", "a", "b", "c", "e", "o"])

    def test_those_that_can_not_be_merged(self):
        self.told([[1, 2], [2, 1]], None)
        self.told([[5], [1, 2], [2, 1]], None)
        self.told([[1, 2], [2, 3], [3, 1]], None)
        self.told([[9, 1], [1, 9]], None)
        self.told([[1, 9], [9], [2, 9], [9, 2]], None)

    def test_a_list_with_a_value_twice(self):
        # Only the other lists are looked at.
        self.told([[1, 1]], [1, 1])
        self.told([[1], [1, 1]], [1, 1])
        self.told([[1, 1], [1, 1]], None)

    def test_other_values(self):
        self.told([[None], [None, 0]], [None, 0])
        self.told([["", 0], [None, ""]], [None, "", 0])
        self.told([[("thing", 3), ("none",)], [("number", 1), ("none",)]],
                  [("thing", 3), ("number", 1), ("none",)])
        self.told([[(), []], [[]]], [(), []])
        self.told([[-1, 10 ** 40], [10 ** 40]], [-1, 10 ** 40])

    def test_truths_are_no_numbers(self):
        self.told([[True], [1]], [True, 1])
        self.told([[1], [True]], [1, True])
        self.told([[0, 5], [5, False]], [0, 5, False])
        self.told([[False, 5], [5, False]], None)
        self.told([[True, 2], [True]], [True, 2])

    def test_what_is_told_is_the_askers_own(self):
        rows = [[1, 2, 3]]
        told = merged(rows)
        told.append(4)
        told[0] = 9
        self.assertEqual(rows, [[1, 2, 3]])
        self.assertEqual(merged(rows), [1, 2, 3])

    def test_rows_may_be_changed_behind(self):
        rows = [[1, 2], [2, 3]]
        told = merged(rows)
        rows[0].append(9)
        rows.clear()
        self.assertEqual(told, [1, 2, 3])

    def test_as_python_orders_classes(self):
        chance = random.Random(11)
        outcomes = []
        for _ in range(300):
            kinds, orders = [object], {object: ["o"]}
            for k in range(8):
                elders = chance.sample(kinds, min(len(kinds), chance.randint(1, 3)))
                wanted = None
                try:
                    made = type(f"k{k}", tuple(elders), {})
                except TypeError:
                    made = None
                else:
                    wanted = ["o" if kind is object else kind.__name__ for kind in made.__mro__[1:]]
                names = [orders[elder][0] for elder in elders]
                self.assertEqual(merged([orders[elder] for elder in elders] + [names]), wanted)
                outcomes.append(made is None)
                if made is not None:
                    kinds.append(made)
                    orders[made] = [f"k{k}"] + wanted
        self.assertIn(True, outcomes)
        self.assertIn(False, outcomes)


class Orders(unittest.TestCase):
    def setUp(self):
        self.world = World([])
        self.thing = known(self.world, "Thing")
        self.fault = known(self.world, "Fault")

    def told(self, elders, wanted):
        for _ in range(2):
            self.assertEqual(order_of(self.world, elders), wanted)

    def chain(self, many):
        """The last of so many classes, each under the one ahead, the first one Thing itself."""
        last = self.thing
        for k in range(many - 1):
            last = class_under(self.world, f"c{k}", (last,))
        return last

    def test_no_elders_is_as_of_thing(self):
        self.told((), ("value", (self.thing,)))
        self.told((self.thing,), ("value", (self.thing,)))

    def test_each_given_class(self):
        self.told((self.fault,), ("value", (self.fault, self.thing)))
        for name in FAULTS:
            one = known(self.world, name)
            self.told((one,), ("value", (one, self.fault, self.thing)))
        unbound, of_name = known(self.world, "UnboundFault"), known(self.world, "NameFault")
        self.told((unbound,), ("value", (unbound, of_name, self.fault, self.thing)))

    def test_several(self):
        a, b = class_under(self.world, "A"), class_under(self.world, "B")
        self.told((a, b), ("value", (a, b, self.thing)))
        self.told((b, a), ("value", (b, a, self.thing)))
        c, d = class_under(self.world, "C", (a, b)), class_under(self.world, "D", (a,))
        self.told((c,), ("value", (c, a, b, self.thing)))
        self.told((d, c), ("value", (d, c, a, b, self.thing)))
        self.told((c, self.fault), ("value", (c, a, b, self.fault, self.thing)))
        self.told((d, b, self.thing), ("value", (d, a, b, self.thing)))

    def test_more_than_three_elders(self):
        many = tuple(class_under(self.world, f"C{k}") for k in range(6))
        self.told(many, ("value", many + (self.thing,)))

    def test_no_class(self):
        a = class_under(self.world, "A")
        for word, value in each_kind(self.world).items():
            if word not in ("class", "fault class", "Thing", "Fault", "EndFault"):
                self.told((value,), KIND)
                self.told((a, value), KIND)
                self.told((value, a), KIND)
        for name in FUNCTIONS:
            self.told((known(self.world, name),), KIND)

    def test_no_class_ahead_of_all_else(self):
        a, b = class_under(self.world, "A"), class_under(self.world, "B")
        c, d = class_under(self.world, "C", (a, b)), class_under(self.world, "D", (b, a))
        long = self.chain(39)
        for word, value in each_kind(self.world).items():
            if word not in ("class", "fault class", "Thing", "Fault", "EndFault"):
                for elders in ((a, a), (c, d), (long, a), (value,)):
                    self.told(elders + (value,), KIND)
                    self.told((value,) + elders, KIND)
                    self.told((elders[0], value) + elders[1:], KIND)

    def test_twice(self):
        a, b = class_under(self.world, "A"), class_under(self.world, "B")
        for elders in ((a, a), (a, b, a), (b, a, a), (self.thing, self.thing), (self.fault, self.fault, a)):
            self.told(elders, ORDER)

    def test_no_order(self):
        a, b = class_under(self.world, "A"), class_under(self.world, "B")
        c, d = class_under(self.world, "C", (a, b)), class_under(self.world, "D", (b, a))
        for elders in ((c, d), (d, c), (self.thing, a), (self.fault, known(self.world, "KindFault")), (a, c)):
            self.told(elders, ORDER)
        self.told((c, a), ("value", (c, a, b, self.thing)))

    def test_forty_classes_and_more(self):
        last = self.chain(39)
        answer = order_of(self.world, (last,))
        self.assertEqual((answer[0], len(answer[1])), ("value", 39))
        fortieth = class_of(self.world, "C", answer[1], {})
        self.told((fortieth,), ORDER)
        self.told((fortieth, self.thing), ORDER)

    def test_forty_by_two_elders(self):
        long, short = self.chain(20), self.chain(20)
        self.assertEqual(len(order_of(self.world, (long, short))[1]), 39)
        more = class_under(self.world, "A", (short,))
        self.told((long, more), ORDER)
        self.told((more, long), ORDER)

    def test_nothing_is_made_or_changed(self):
        a = class_under(self.world, "A")
        elders = (a, self.thing)
        before = class_under(self.world, "B")
        self.told(elders, ("value", (a, self.thing)))
        self.told((a, a), ORDER)
        self.assertEqual(class_under(self.world, "B")[1], before[1] + 1)
        self.assertEqual(elders, (a, self.thing))

    def test_kinds(self):
        answer = order_of(self.world, ())
        self.assertEqual((type(answer), type(answer[1])), (tuple, tuple))


class Classes(unittest.TestCase):
    def setUp(self):
        self.world = World([])
        self.order = order_of(self.world, ())[1]

    def test_unlike_all_ahead(self):
        ahead = list(each_kind(self.world).values()) + [known(self.world, "Fault")]
        for name in ("A", "A", "Snake", "Fault", "f"):
            made = class_of(self.world, name, self.order, {})
            self.assertEqual((type(made), made[0], type(made[1])), (tuple, "thing", int))
            self.assertNotIn(made, ahead)
            ahead.append(made)

    def test_a_given_classes_name_stays_that_of_the_given_one(self):
        given = known(self.world, "Fault")
        class_of(self.world, "Fault", self.order, {})
        self.assertEqual(known(self.world, "Fault"), given)

    def test_its_order_has_it_first(self):
        made = class_of(self.world, "A", self.order, {})
        self.assertEqual(order_of(self.world, (made,)), ("value", (made,) + self.order))

    def test_its_name(self):
        self.assertEqual(text_of(self.world, class_of(self.world, "Adder", self.order, {})), "class Adder")

    def test_its_fields(self):
        fields = {"a": ("number", 1), "b": ("none",)}
        made = class_of(self.world, "A", self.order, fields)
        self.assertEqual(field_of(self.world, made, "a"), ("value", ("number", 1)))
        self.assertEqual(field_of(self.world, made, "b"), ("value", ("none",)))
        self.assertEqual(field_of(self.world, made, "c"), ("fault", "FieldFault"))

    def test_the_dict_may_be_changed_behind(self):
        fields = {"a": ("number", 1)}
        made = class_of(self.world, "A", self.order, fields)
        fields["a"] = ("number", 2)
        fields["b"] = ("number", 3)
        self.assertEqual(field_of(self.world, made, "a"), ("value", ("number", 1)))
        self.assertEqual(field_of(self.world, made, "b"), ("fault", "FieldFault"))
        fields.clear()
        self.assertEqual(field_of(self.world, made, "a"), ("value", ("number", 1)))

    def test_the_dict_is_not_changed(self):
        fields = {"a": ("number", 1)}
        made = class_of(self.world, "A", self.order, fields)
        put_field(self.world, made, "a", ("number", 2))
        put_field(self.world, made, "b", ("number", 2))
        self.assertEqual(fields, {"a": ("number", 1)})

    def test_one_dict_for_two(self):
        fields = {"a": ("number", 1)}
        one, other = [class_of(self.world, "A", self.order, fields) for _ in range(2)]
        put_field(self.world, one, "a", ("number", 2))
        self.assertEqual(field_of(self.world, other, "a"), ("value", ("number", 1)))

    def test_each_pair_of_orders(self):
        """Of each three elders out of five classes merging tells the same as order_of."""
        a, b = [class_of(self.world, name, self.order, {}) for name in "AB"]
        c, d = class_under(self.world, "C", (a, b)), class_under(self.world, "D", (b,))
        whole = {one: [one] + list(order_of(self.world, (one,))[1][1:]) for one in (a, b, c, d)}
        for elders in itertools.permutations(whole, 3):
            wanted = merged([whole[one] for one in elders] + [list(elders)])
            self.assertEqual(order_of(self.world, elders), ORDER if wanted is None else ("value", tuple(wanted)))


if __name__ == "__main__":
    unittest.main()
