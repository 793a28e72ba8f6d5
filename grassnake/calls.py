"""Calls: what a call of a value is, what a for's asking is, and how a count's giver goes on."""

from grassnake.faults import is_fault
from grassnake.fields import field_of, order_of_owner, put_field, text_of
from grassnake.store import (
    Function, Given, Kind, Method, NONE, Object, frame_of, is_class, is_fault_class, is_giver, new_count, new_object,
    new_view, set_state, state_of, thing_of)

MOST_COUNT = 10000
KIND_FAULT = ("fault", "KindFault")
# How many values each given function takes: at the least, and at the most.
VALUES_OF_GIVEN = {
    "say": (1, 1), "take": (0, 0), "isa": (2, 2), "elder": (2, 2), "count": (1, 1), "go": (1, 2), "throw": (2, 2),
    "shut": (1, 1),
}


def entered(world, f, values):
    target = thing_of(world, f)
    lacking = target.params - len(values)
    if lacking < 0 or lacking > len(target.defaults):
        return KIND_FAULT
    return ("enter", f, values + target.defaults[len(target.defaults) - lacking:])


def object_of(world, kind, values):
    made = new_object(world, kind)
    start = field_of(world, made, "start")
    if start[0] == "value":
        is_method = isinstance(thing_of(world, start[1]), Method)
        return ("start", made, start[1], values) if is_method else KIND_FAULT
    if len(values) > (1 if is_fault_class(world, kind) else 0):
        return KIND_FAULT
    if len(values) == 1:
        put_field(world, made, "word", values[0])
    return ("value", made)


def said(world, x):
    world.lines.append(text_of(world, x))
    return ("value", NONE)


def taken_input(world):
    n = world.left.pop(0) if len(world.left) > 0 else 0
    return ("value", ("number", n))


# Objects alone have a class.
def is_under(world, x, kind):
    return isinstance(thing_of(world, x), Object) and kind in order_of_owner(world, x)


def told_isa(world, x, kind):
    return ("value", ("truth", is_under(world, x, kind))) if is_class(world, kind) else KIND_FAULT


# What is no class stands in no order, so that needs no look of its own.
def viewed(world, kind, x):
    return ("value", new_view(world, kind, x)) if is_under(world, x, kind) else KIND_FAULT


def counted(world, n):
    if n[0] != "number":
        return KIND_FAULT
    return ("fault", "GreatFault") if n[1] > MOST_COUNT else ("value", new_count(world, n[1]))


# None of what is no giver, and of one that goes already: both are refused likewise.
def state_to_go(world, g):
    state = state_of(world, g) if is_giver(world, g) else None
    return None if state == "goes" else state


def gone_on(world, g, v):
    state = state_to_go(world, g)
    if state is None:
        return KIND_FAULT
    if state == "over":
        return ("fault", "EndFault")
    # A count's giver, which alone has no frame, has no yield that would want to bind v.
    if state == "new" and v != NONE and frame_of(world, g) is not None:
        return KIND_FAULT
    return ("go", g, v)


def thrown(world, g, fault):
    state = state_to_go(world, g)
    if state is None or not is_fault(world, fault):
        return KIND_FAULT
    return ("raise", fault) if state == "over" else ("throw", g, fault)


def shut_down(world, g):
    state = state_to_go(world, g)
    if state is None:
        return KIND_FAULT
    if state == "waits":
        return ("shut", g)
    set_state(world, g, "over")
    return ("value", NONE)


def called_given(world, name, values):
    bounds = VALUES_OF_GIVEN[name]
    if len(values) < bounds[0] or len(values) > bounds[1]:
        return KIND_FAULT
    if name == "say":
        return said(world, values[0])
    if name == "take":
        return taken_input(world)
    if name == "isa":
        return told_isa(world, values[0], values[1])
    if name == "elder":
        return viewed(world, values[0], values[1])
    if name == "count":
        return counted(world, values[0])
    if name == "go":
        return gone_on(world, values[0], values[1] if len(values) > 1 else NONE)
    if name == "throw":
        return thrown(world, values[0], values[1])
    return shut_down(world, values[0])


def called(world, a, values):
    thing = thing_of(world, a)
    if isinstance(thing, Function):
        return entered(world, a, values)
    if isinstance(thing, Method):
        return entered(world, thing.target, (thing.owner,) + values)
    if isinstance(thing, Kind):
        return object_of(world, a, values)
    return called_given(world, thing.name, values) if isinstance(thing, Given) else KIND_FAULT


def asked(world, g):
    state = state_to_go(world, g)
    if state is None:
        return KIND_FAULT
    return ("over",) if state == "over" else ("go", g, NONE)


def counted_on(world, g):
    count = thing_of(world, g)
    if count.handed >= count.many:
        set_state(world, g, "over")
        return ("over",)
    n = count.handed
    count.handed = n + 1
    set_state(world, g, "waits")
    return ("value", ("number", n))
