"""Linking objects (points 130 and 131)."""

from guanaco.errors import LinkError
from guanaco.forms import build, fold, head_of
from guanaco.start import BASE_TYPES, DATA

SLOTS_PER_OBJECT = 4


class Linked:
    """What was linked: functions behind function 0, its instructions, and the data and exceptions so far.

    `results` has the slot with the values of each object.
    """

    def __init__(self):
        self.functions = []
        self.row = []
        self.results = {}
        self.data = list(DATA)
        self.exceptions = []


def link(objects, main):
    """The code and the info of the objects that a main unit needs."""
    table = {}
    for o in objects:
        if o[0] in table:
            raise LinkError("twice")
        table[o[0]] = o
    needed = needed_objects(table, main)
    order = ordered(needed)
    for o in order:
        if o[2] != tuple([table[name][3] for name in o[1]]):
            raise LinkError("interface")
    linked = Linked()
    for o in order:
        add_object(linked, o)
    linked.row.append(("return", linked.results[main]))
    first = (2 + SLOTS_PER_OBJECT * len(order), tuple(linked.row))
    shown = tuple([renamed_value(main, entry) for entry in table[main][4][0]])
    return (first, *linked.functions), (shown, tuple(linked.data), tuple(linked.exceptions))


def needed_objects(table, main):
    """The dict of the objects that a main unit needs."""
    needed = {}
    waiting = [main]
    while waiting:
        name = waiting.pop()
        if name not in table:
            raise LinkError("missing")
        if name not in needed:
            needed[name] = table[name]
            waiting.extend(list(table[name][1]))
    return needed


def ordered(needed):
    """The list of objects, each behind its imports, and otherwise by names."""
    order = []
    placed = {}
    while len(order) < len(needed):
        ready = [name for name in needed if name not in placed and is_ready(needed[name], placed)]
        if not ready:
            raise LinkError("cycle")
        placed[min(ready)] = True
        order.append(needed[min(ready)])
    return order


def is_ready(o, placed):
    """Whether all imports of an object have their places."""
    return all([name in placed for name in o[1]])


def add_object(linked, o):
    """Adds the functions of an object, and the instructions that make its values."""
    name, imports, _, _, (_, data, exceptions), code = o
    first = 1 + len(linked.functions)
    slot = 2 + len(linked.row)
    linked.row.append(("close", slot, first, 0))
    linked.row.append(("call", slot + 1, slot, 1))
    if imports:
        linked.row.append(("tuple", slot + 2, tuple([linked.results[other] for other in imports])))
    else:
        linked.row.append(("tag", slot + 2, 0))
    linked.row.append(("call", slot + 3, slot + 1, slot + 2))
    linked.results[name] = slot + 3
    declared = len(linked.exceptions)
    for slots, row in code:
        linked.functions.append((slots, tuple([moved(instruction, first, declared) for instruction in row])))
    for ty, letters, constructors in data[len(DATA):]:
        linked.data.append((new_name(name, ty), letters, renamed_pairs(name, constructors)))
    linked.exceptions.extend(list(renamed_pairs(name, exceptions)))


def moved(instruction, first, declared):
    """An instruction of an object whose functions and exceptions have other numbers in the linked code."""
    tag = instruction[0]
    if tag == "close":
        return (tag, instruction[1], instruction[2] + first, instruction[3])
    if tag == "fresh":
        return (tag, instruction[1], instruction[2] + declared)
    return instruction


def new_name(unit, name):
    """The name of a type constructor of a unit in what is linked."""
    return name if name in [known for known, _ in BASE_TYPES] else f"{unit}.{name}"


def renamed_ty(unit, ty):
    """A type of a unit with the new names of type constructors. It may be None."""
    def combine(part, parts):
        if part[0] == "var":
            return part
        kind, name = head_of(part)
        return build((kind, new_name(unit, name)) if kind == "con" else (kind, name), parts)
    return None if ty is None else fold(ty, combine)


def renamed_pairs(unit, pairs):
    """Pairs of a name and a type of a unit with the new names of type constructors."""
    return tuple([(name, renamed_ty(unit, ty)) for name, ty in pairs])


def renamed_value(unit, entry):
    """A value that is shown, with the new names of type constructors."""
    name, (letters, ty), x, own, inner = entry
    return name, (letters, renamed_ty(unit, ty)), x, own, renamed_ty(unit, inner)
