"""Orders of classes: how those of the elders are merged."""

from grassnake.store import is_class, known, new_class, thing_of

MOST_CLASSES = 40


# Python takes True for 1 and False for 0; truths are no numbers here.
def is_same(one, other):
    return isinstance(one, bool) == isinstance(other, bool) and one == other


def is_behind_head(thing, row):
    return any([is_same(thing, one) for one in row[1:]])


# The place of the first list whose head can be taken; the head itself may be any value, None too.
def place_of_free(rows):
    for place, row in enumerate(rows):
        others = rows[:place] + rows[place + 1:]
        if not any([is_behind_head(row[0], other) for other in others]):
            return place
    return None


def without_head(rows, head):
    shorter = [row[1:] if is_same(row[0], head) else row for row in rows]
    return [row for row in shorter if len(row) > 0]


def merged(rows):
    waiting = [row for row in rows if len(row) > 0]
    order = []
    while len(waiting) > 0:
        place = place_of_free(waiting)
        if place is None:
            return None
        head = waiting[place][0]
        order.append(head)
        waiting = without_head(waiting, head)
    return order


def order_of(world, elders):
    if not all([is_class(world, elder) for elder in elders]):
        return ("fault", "KindFault")
    if any([elders.count(elder) > 1 for elder in elders]):
        return ("fault", "OrderFault")
    own = elders if len(elders) > 0 else (known(world, "Thing"),)
    order = merged([thing_of(world, elder).order for elder in own] + [own])
    # The class itself counts, too.
    if order is None or len(order) + 1 > MOST_CLASSES:
        return ("fault", "OrderFault")
    return ("value", tuple(order))


def class_of(world, name, order, fields):
    return new_class(world, name, order, fields, False)
