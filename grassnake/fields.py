"""Fields of objects, classes and views, and the texts of values."""

from grassnake.store import Function, Given, Giver, Kind, Method, NONE, Object, View, new_method, thing_of


def found_in(world, classes, name):
    for one in classes:
        fields = thing_of(world, one).fields
        if name in fields:
            return fields[name]
    return None


def found_by_way(world, owner, classes, name):
    found = found_in(world, classes, name)
    if found is not None and isinstance(thing_of(world, found), Function):
        return new_method(world, found, owner)
    return found


def order_of_owner(world, owner):
    return thing_of(world, thing_of(world, owner).kind).order


def found_of_view(world, view, name):
    order = order_of_owner(world, view.owner)
    return found_by_way(world, view.owner, order[order.index(view.kind) + 1:], name)


def field_of(world, a, name):
    thing = thing_of(world, a)
    found = None
    if isinstance(thing, Object):
        found = thing.fields.get(name)
        if found is None:
            found = found_by_way(world, a, order_of_owner(world, a), name)
    elif isinstance(thing, Kind):
        found = found_in(world, thing.order, name)
    elif isinstance(thing, View):
        found = found_of_view(world, thing, name)
    return ("fault", "FieldFault") if found is None else ("value", found)


def can_be_put(thing):
    return isinstance(thing, Object) or isinstance(thing, Kind) and not thing.is_given


def put_field(world, a, name, v):
    thing = thing_of(world, a)
    if not can_be_put(thing):
        return ("fault", "FieldFault")
    thing.fields[name] = v
    return ("value", NONE)


def named(word, name):
    return f"{word} {name}"


def text_of_thing(world, thing):
    if isinstance(thing, Function) or isinstance(thing, Given):
        return named("function", thing.name)
    if isinstance(thing, Method):
        return named("method", thing_of(world, thing.target).name)
    if isinstance(thing, Kind):
        return named("class", thing.name)
    if isinstance(thing, Object):
        return named("a", thing_of(world, thing.kind).name)
    return named("giver", thing.name) if isinstance(thing, Giver) else "view"


def text_of(world, a):
    if a[0] == "thing":
        return text_of_thing(world, thing_of(world, a))
    return "None" if a[0] == "none" else str(a[1])
