"""Emitting code for functions without free variables (points 115 and 116).

Blocks may be deep, so what is still to be emitted is noted as work. While a function is emitted, its instructions
jump to labels.
"""

from guanaco.blocks import operation_atoms
from guanaco.instructions import FEWEST_SLOTS, slots_of, with_targets

# The place of the value of a block in tail position.
TAIL = -1


class Draft:
    """The instructions of a function so far, the slots of names, where labels are, and what is still to be done.

    What is to be done is a function of this file, what it is about, the first free slot, and the slot of the value.
    """

    def __init__(self, environment, parameter):
        self.row = []
        self.slots = {environment: 0, parameter: 1}
        self.labels = []
        self.work = []

    def label(self):
        """A new label."""
        self.labels.append(None)
        return len(self.labels) - 1

    def later(self, action, what, free=0, target=0):
        """Notes what is to be done next."""
        self.work.append((action, what, free, target))

    def go(self):
        """Does all that is to be done."""
        while self.work:
            action, what, free, target = self.work.pop()
            action(self, what, free, target)

    def add(self, instruction):
        """Adds an instruction."""
        self.row.append(instruction)

    def slot(self, atom, free):
        """The slot of an atom, which is loaded into the free one if it is no name."""
        if atom[0] == "name":
            return self.slots[atom[1]]
        self.add((atom[0], free, atom[1]))
        return free

    def slots_for(self, atoms, free):
        """The list of the slots of atoms, those that are no names in slots of their own."""
        found = []
        for atom in atoms:
            found.append(self.slot(atom, free))
            if atom[0] != "name":
                free += 1
        return found


def emit(functions):
    """The code of functions."""
    return tuple([emitted(function) for function in functions])


def emitted(function):
    """The function of code for a function."""
    environment, parameter, block = function
    draft = Draft(environment, parameter)
    draft.later(emit_block, block, 2, TAIL)
    draft.go()
    row = tuple([with_targets(instruction, draft.labels) for instruction in draft.row])
    most = max([max(slots_of(instruction), default=0) for instruction in row])
    return max(FEWEST_SLOTS, most + 1), row


def emit_block(draft, block, free, target):
    """A block."""
    steps, end = block
    if target == TAIL and steps and is_last_call(steps[-1], end):
        draft.later(emit_tail, steps[-1][2], free + len(steps) - 1)
        steps = steps[:-1]
    else:
        emit_end = ENDS[end[0]]
        draft.later(emit_end, end, free + len(steps), target)
    for k in reversed(range(len(steps))):
        emit_step = STEPS[steps[k][0]]
        draft.later(emit_step, steps[k], free + k)


def is_last_call(step, end):
    """Whether the value of a block in tail position is that of an application."""
    return step[0] == "bind" and step[2][0] == "apply" and end == ("give", ("name", step[1]))


def emit_tail(draft, operation, free, target):
    """An application in the place of its function."""
    draft.add(("tail", *draft.slots_for(operation[1:], free)))


def emit_bind(draft, step, free, target):
    """A step that names the result of an operation."""
    _, x, operation = step
    slots = draft.slots_for(operation_atoms(operation), free)
    draft.slots[x] = free
    tag = operation[0]
    if tag == "prim":
        draft.add(("prim", free, operation[1], tuple(slots)))
    elif tag == "tuple":
        draft.add(("tuple", free, tuple(slots)))
    elif tag == "pack":
        draft.add(("pack", free, slots[0], None if operation[2] is None else slots[1]))
    elif tag == "apply":
        draft.add(("call", free, *slots))
    elif tag == "arg":
        draft.add(("arg", free, *slots))
    else:
        # Components, constructors, exceptions and closures have a number in front of what is read.
        draft.add((tag, free, operation[1], *slots))


def emit_sub(draft, step, free, target):
    """A step that names the value of a block."""
    draft.slots[step[1]] = free
    draft.later(emit_block, step[2], free, free)


def emit_guard(draft, step, free, target):
    """A step that names the value of a block, or of another one that takes an exception."""
    _, x, first, h, second = step
    taken = draft.label()
    behind = draft.label()
    draft.slots[x] = free
    draft.slots[h] = free
    draft.add(("guard", free, taken))
    draft.later(put_label, behind)
    draft.later(emit_block, second, free + 1, free)
    draft.later(put_label, taken)
    draft.later(add_jump, behind)
    draft.later(add_unguard, None)
    draft.later(emit_block, first, free, free)


def add_unguard(draft, what, free, target):
    """The end of a guard."""
    draft.add(("unguard",))


def add_jump(draft, label, free, target):
    """A jump to a label."""
    draft.add(("jump", label))


def put_label(draft, label, free, target):
    """A label is where the next instruction is."""
    draft.labels[label] = len(draft.row)


def emit_give(draft, end, free, target):
    """The value of a block."""
    atom = end[1]
    if target == TAIL:
        draft.add(("return", draft.slot(atom, free)))
    elif atom[0] != "name":
        draft.slot(atom, target)
    elif draft.slots[atom[1]] != target:
        draft.add(("move", target, draft.slots[atom[1]]))


def emit_throw(draft, end, free, target):
    """An exception value that is raised."""
    draft.add(("raise", draft.slot(end[1], free)))


def emit_selection(draft, end, free, target):
    """A selection by a constructor, an integer or a string."""
    tag, atom, branches, default = end
    slot = draft.slot(atom, free)
    rows = [(draft.label(), block) for _, block in branches]
    pairs = tuple([(key, label) for (key, _), (label, _) in zip(branches, rows)])
    other = None
    if default is not None:
        other = draft.label()
        rows.append((other, default))
    draft.add((tag, slot, pairs, other))
    later_rows(draft, rows, free, target)


def emit_unpack(draft, end, free, target):
    """A selection by an exception."""
    _, atom, branches, default = end
    slot = draft.slot(atom, free)
    place = free if atom[0] == "name" else free + 1
    rows = [(draft.label(), default)]
    for z, block in branches:
        label = draft.label()
        rows.append((label, block))
        draft.add(("same", slot, draft.slot(z, place), label))
        if z[0] != "name":
            place += 1
    later_rows(draft, rows, free, target)


def later_rows(draft, rows, free, target):
    """Notes the blocks of a selection with their labels. The value of each of them is that of the selection."""
    behind = draft.label()
    draft.later(put_label, behind)
    last = True
    for label, block in reversed(rows):
        if target != TAIL and not last:
            draft.later(add_jump, behind)
        draft.later(emit_block, block, free, target)
        draft.later(put_label, label)
        last = False


STEPS = {"bind": emit_bind, "sub": emit_sub, "guard": emit_guard}
ENDS = {
    "give": emit_give, "throw": emit_throw, "switch": emit_selection, "choose": emit_selection,
    "unpack": emit_unpack,
}
