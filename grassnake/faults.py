"""Faults: how they are made, what may be raised, what is bound then, what fits a catch, and their names."""

from grassnake.store import NONE, Object, is_fault_class, known, new_object, thing_of

MOST_NAMES = 8


def made(world, name, word=None):
    fault = new_object(world, known(world, name))
    if word is not None:
        fields = thing_of(world, fault).fields
        fields["word"] = word
    return fault


def is_fault(world, a):
    thing = thing_of(world, a)
    return isinstance(thing, Object) and is_fault_class(world, thing.kind)


def raised_of(world, a):
    if is_fault(world, a):
        return ("value", a)
    return ("call", a) if is_fault_class(world, a) else ("fault", "KindFault")


def bind_raised(world, fault, cause, held):
    fields = thing_of(world, fault).fields
    fields["cause"] = cause
    # A fault that is raised while it is held itself would else be its own context.
    fields["context"] = NONE if held is None or held == fault else held


def fits(world, fault, a):
    if not is_fault_class(world, a):
        return ("fault", "KindFault")
    kind = thing_of(world, thing_of(world, fault).kind)
    return ("value", ("truth", a in kind.order))


# What a fault comes of: its cause, else its context, None where neither is a fault.
def fault_behind(world, fault):
    fields = thing_of(world, fault).fields
    for name in ("cause", "context"):
        if is_fault(world, fields[name]):
            return fields[name]
    return None


def names_of(world, fault):
    names = []
    behind = fault
    # Faults may come of one another round about, so the bound is what ends it then.
    while behind is not None and len(names) < MOST_NAMES:
        names.append(thing_of(world, thing_of(world, behind).kind).name)
        behind = fault_behind(world, behind)
    return names
