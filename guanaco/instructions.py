"""The instructions of code, and what is code and what is none (points 111 and 112)."""

# The kinds of the parts of each instruction. "to" is a slot that receives a value, "from" one that is read, "maybe"
# one that is read or None, "slots" and "row" are tuples of slots that are read (a row is not empty), "at" is an
# instruction, "other" one or None, "tags" and "constants" are branches, "count" is a number from 0.
PARTS = {
    "int": ("to", "int"), "string": ("to", "text"), "tag": ("to", "count"), "move": ("to", "from"),
    "prim": ("to", "op", "slots"), "tuple": ("to", "row"), "part": ("to", "count", "from"),
    "make": ("to", "count", "from"), "arg": ("to", "from"), "fresh": ("to", "count"),
    "pack": ("to", "from", "maybe"), "close": ("to", "function", "from"), "call": ("to", "from", "from"),
    "tail": ("from", "from"), "return": ("from",), "jump": ("at",), "switch": ("from", "tags", "other"),
    "choose": ("from", "constants", "at"), "same": ("from", "from", "at"), "guard": ("to", "at"), "unguard": (),
    "raise": ("from",),
}
FEWEST_SLOTS = 2


def slots_read(instruction):
    """The list of the slots that an instruction reads."""
    found = []
    for kind, part in zip(PARTS[instruction[0]], instruction[1:]):
        if kind in ("slots", "row"):
            found.extend(list(part))
        elif kind == "from" or (kind == "maybe" and part is not None):
            found.append(part)
    return found


def slots_of(instruction):
    """The list of all slots of an instruction."""
    found = slots_read(instruction)
    if "to" in PARTS[instruction[0]]:
        found.append(instruction[1])
    return found


def targets(instruction):
    """The list of the instructions to which one may jump."""
    found = []
    for kind, part in zip(PARTS[instruction[0]], instruction[1:]):
        if kind in ("tags", "constants"):
            found.extend([at for _, at in part])
        elif kind == "at" or (kind == "other" and part is not None):
            found.append(part)
    return found


def with_targets(instruction, numbers):
    """The instruction with other targets: `numbers` has the new one for each."""
    found = [instruction[0]]
    for kind, part in zip(PARTS[instruction[0]], instruction[1:]):
        if kind in ("tags", "constants"):
            found.append(tuple([(key, numbers[at]) for key, at in part]))
        elif kind == "at" or (kind == "other" and part is not None):
            found.append(numbers[part])
        else:
            found.append(part)
    return tuple(found)


def is_code(thing):
    """Whether a nested tuple is code."""
    return is_filled(thing) and all([is_function(function) for function in thing])


def is_filled(thing):
    """Whether something is a tuple that is not empty."""
    return isinstance(thing, tuple) and thing != ()


def is_function(thing):
    """Whether something is a function of code."""
    if not isinstance(thing, tuple) or len(thing) != 2:
        return False
    slots, row = thing
    if not is_count(slots) or slots < FEWEST_SLOTS:
        return False
    return is_filled(row) and all([is_instruction(instruction) for instruction in row])


def is_instruction(thing):
    """Whether something is an instruction."""
    if not is_filled(thing) or not isinstance(thing[0], str) or thing[0] not in PARTS:
        return False
    kinds = PARTS[thing[0]]
    if len(thing) != 1 + len(kinds):
        return False
    return all([is_part(kind, part) for kind, part in zip(kinds, thing[1:])])


def is_part(kind, thing):
    """Whether something is a part of an instruction."""
    if thing is None:
        return kind in ("maybe", "other")
    check = CHECKS[kind]
    return check(thing)


def is_integer(thing):
    """Whether something is an integer, and no boolean."""
    return isinstance(thing, int) and not isinstance(thing, bool)


def is_count(thing):
    """Whether something is a number from 0."""
    return is_integer(thing) and thing >= 0


def is_text(thing):
    """Whether something is a string."""
    return isinstance(thing, str)


def is_name(thing):
    """Whether something can be written as the name of a primitive."""
    return isinstance(thing, str) and thing.isascii() and thing.isalpha() and thing.islower()


def is_slots(thing):
    """Whether something is a tuple of slots."""
    return isinstance(thing, tuple) and all([is_count(slot) for slot in thing])


def is_row(thing):
    """Whether something is a tuple of at least one slot."""
    return is_filled(thing) and is_slots(thing)


def are_branches(thing):
    """Whether something is a tuple of pairs, the second parts of which are instructions."""
    if not isinstance(thing, tuple):
        return False
    return all([isinstance(branch, tuple) and len(branch) == 2 and is_count(branch[1]) for branch in thing])


def are_tags(thing):
    """Whether something is branches with the numbers of constructors in ascending order."""
    if not are_branches(thing):
        return False
    least = 0
    for key, _ in thing:
        if not is_count(key) or key < least:
            return False
        least = key + 1
    return True


def are_constants(thing):
    """Whether something is branches with different integers or different strings."""
    if not are_branches(thing):
        return False
    found = [key for key, _ in thing]
    if not all([is_integer(key) for key in found]) and not all([is_text(key) for key in found]):
        return False
    return len(set(found)) == len(found)


CHECKS = {
    "to": is_count, "from": is_count, "maybe": is_count, "slots": is_slots, "row": is_row, "at": is_count,
    "other": is_count, "tags": are_tags, "constants": are_constants, "int": is_integer, "text": is_text,
    "count": is_count, "op": is_name, "function": is_count,
}
