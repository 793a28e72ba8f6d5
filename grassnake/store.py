"""The store: a world with its things, and the values by which they are told."""

NONE = ("none",)
GIVEN_FUNCTIONS = ("say", "take", "isa", "elder", "count", "go", "throw", "shut")
# Each given class with those behind it in its order; what it stands under comes ahead of it.
GIVEN_CLASSES = (
    ("Thing", ()),
    ("Fault", ("Thing",)),
    ("NameFault", ("Fault", "Thing")),
    ("KindFault", ("Fault", "Thing")),
    ("NoughtFault", ("Fault", "Thing")),
    ("GreatFault", ("Fault", "Thing")),
    ("FieldFault", ("Fault", "Thing")),
    ("OrderFault", ("Fault", "Thing")),
    ("EndFault", ("Fault", "Thing")),
    ("ShutFault", ("Fault", "Thing")),
    ("DeepFault", ("Fault", "Thing")),
    ("UnboundFault", ("NameFault", "Fault", "Thing")),
)
FAULT_FIELDS = ("word", "cause", "context")


# A function of a def; its code and around are the affair of whoever runs it.
class Function:
    def __init__(self, name, params, defaults, code, around, gives):
        self.name = name
        self.params = params
        self.defaults = defaults
        self.code = code
        self.around = around
        self.gives = gives


class Given:
    def __init__(self, name):
        self.name = name


class Method:
    def __init__(self, target, owner):
        self.target = target
        self.owner = owner


# A class; its order has itself first.
class Kind:
    def __init__(self, name, order, fields, is_given):
        self.name = name
        self.order = order
        self.fields = fields
        self.is_given = is_given


class Object:
    def __init__(self, kind, fields):
        self.kind = kind
        self.fields = fields


# A count's has no frame, but how many numbers it hands out, and how many it did so far.
class Giver:
    def __init__(self, name, frame, many):
        self.name = name
        self.frame = frame
        self.state = "new"
        self.many = many
        self.handed = 0


# What is behind a class in the order of its owner's class.
class View:
    def __init__(self, kind, owner):
        self.kind = kind
        self.owner = owner


class World:
    def __init__(self, inputs):
        self.lines = []
        self.left = list(inputs)
        self.things = []
        self.given = {}
        for name in GIVEN_FUNCTIONS:
            self.given[name] = added(self, Given(name))
        for name, behind in GIVEN_CLASSES:
            self.given[name] = new_class(self, name, [self.given[elder] for elder in behind], {}, True)


def added(world, thing):
    world.things.append(thing)
    return ("thing", len(world.things) - 1)


def thing_of(world, a):
    return world.things[a[1]] if a[0] == "thing" else None


def known(world, name):
    return world.given.get(name)


def function(world, name, params, defaults, code, around, gives):
    return added(world, Function(name, params, defaults, code, around, gives))


def function_of(world, a):
    thing = thing_of(world, a)
    return (thing.name, thing.params, thing.defaults, thing.code, thing.around, thing.gives)


def new_method(world, target, owner):
    return added(world, Method(target, owner))


def new_class(world, name, behind, fields, is_given):
    own = ("thing", len(world.things))
    return added(world, Kind(name, (own,) + tuple(behind), dict(fields), is_given))


def is_class(world, a):
    return isinstance(thing_of(world, a), Kind)


# Whether it is a class that is Fault or under it.
def is_fault_class(world, a):
    return is_class(world, a) and known(world, "Fault") in thing_of(world, a).order


def new_object(world, kind):
    names = FAULT_FIELDS if is_fault_class(world, kind) else ()
    return added(world, Object(kind, dict([(name, NONE) for name in names])))


def new_view(world, kind, owner):
    return added(world, View(kind, owner))


def giver(world, name, frame):
    return added(world, Giver(name, frame, 0))


def new_count(world, many):
    return added(world, Giver("count", None, many))


def is_giver(world, a):
    return isinstance(thing_of(world, a), Giver)


def frame_of(world, g):
    return thing_of(world, g).frame


def state_of(world, g):
    return thing_of(world, g).state


def set_state(world, g, state):
    thing = thing_of(world, g)
    thing.state = state
