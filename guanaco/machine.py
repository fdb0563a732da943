"""The machine that executes code (points 122 to 126)."""

from guanaco.frames import Frame, note_references, put_roots, roots_of
from guanaco.heap import Heap
from guanaco.primitives import OPERATIONS, Raised
from guanaco.start import EXCEPTIONS
from guanaco.store import MOST_OUTPUTS, MOST_REFERENCES, Ended, kinds_chosen
from guanaco.typed_values import Tables, finished, shown_values

MOST_FRAMES = 3000
MOST_OLD = 4000
EMPTY = ("tag", 0)
FULL = ("full",)
STUCK = ("stuck",)


class Machine:
    """A run: the frames, the heap, what was printed, the exceptions that were made, and statistics.

    `clean` frames have not been changed since the last collection, so that they refer to no young object.
    """

    def __init__(self, code, fuel, young, limit):
        self.code = code
        self.fuel = fuel
        self.heap = Heap(young)
        self.least_limit = limit
        self.limit = limit
        self.outputs = []
        self.references = 0
        self.declared = []
        self.clean = 0
        self.executed = 0
        self.minors = 0
        self.majors = 0
        self.made = 0
        self.promoted = 0
        self.result = None
        self.frames = [Frame(code[0][1], {0: EMPTY, 1: EMPTY}, None)]

    def go(self):
        """Executes instructions until the run ends. The value of function 0."""
        while self.result is None:
            frame = self.frames[-1]
            instruction = frame.row[frame.at]
            frame.at += 1
            self.executed += 1
            action = INSTRUCTIONS[instruction[0]]
            action(self, frame, instruction)
        return self.result

    def spend(self):
        """Takes a step."""
        if self.fuel == 0:
            raise Ended(("more",))
        self.fuel -= 1

    def object_of(self, value, kind):
        """The object of a value, which must be of a kind."""
        demand(value[0] == "at")
        found = self.heap.look(value)
        demand(found[0] == kind)
        return found

    def leave(self):
        """Removes the last frame. The one below it is going to be changed."""
        self.frames.pop()
        self.clean = min(self.clean, len(self.frames) - 1)

    def make_room(self):
        """Collects if the young area is full. Values that were read are read again behind this."""
        if not self.heap.is_full():
            return
        _, before, _ = self.heap.counts()
        changed = self.frames[self.clean:]
        note_references(changed)
        put_roots(changed, self.heap.minor(roots_of(changed)))
        self.clean = len(self.frames) - 1
        _, old, _ = self.heap.counts()
        self.minors += 1
        self.promoted += old - before
        if old > self.limit:
            put_roots(self.frames, self.heap.major(roots_of(self.frames)))
            _, old, _ = self.heap.counts()
            self.majors += 1
            self.limit = max(self.least_limit, 2 * old)
        if old > MOST_OLD:
            raise Ended(FULL)

    def make(self, kind, word, fields):
        """Makes an object where there is room."""
        self.made += 1
        return self.heap.make(kind, word, fields)

    def throw(self, value):
        """Goes on with what takes an exception value."""
        while self.frames:
            frame = self.frames[-1]
            if frame.guards:
                slot, frame.at = frame.guards.pop()
                frame.slots[slot] = value
                return
            self.leave()
        # Kept as a value: its tree is made at the end.
        raise Ended(("raised", value))


def demand(test):
    """The run is stuck unless a test holds."""
    if not test:
        raise Ended(STUCK)


def run_code(code, info, fuel, young, limit):
    """The run of sound code."""
    machine = Machine(code, fuel, young, limit)

    def reveal(value):
        """The object of a value."""
        return machine.heap.look(value) if value[0] == "at" else (*value, ())

    tables = Tables(info, machine.declared, reveal)
    try:
        end = shown_values(tables, machine.go())
    except Ended as error:
        end = error.end
    return tuple(machine.outputs), finished(tables, end)


def trace(code, fuel, young, limit):
    """The numbers of instructions, of minor and major collections, of objects made, and of those moved in a run."""
    machine = Machine(code, fuel, young, limit)
    try:
        machine.go()
    except Ended:
        pass
    return machine.executed, machine.minors, machine.majors, machine.made, machine.promoted


def do_constant(machine, frame, instruction):
    """An integer, or a constructor without an argument."""
    tag, d, word = instruction
    frame.slots[d] = (tag, word)


def do_string(machine, frame, instruction):
    """A string."""
    _, d, text = instruction
    machine.make_room()
    frame.slots[d] = machine.make("string", text, ())


def do_move(machine, frame, instruction):
    """The value of another slot."""
    _, d, s = instruction
    frame.slots[d] = frame.slots[s]


def do_prim(machine, frame, instruction):
    """A primitive."""
    _, d, op, slots = instruction
    machine.spend()
    if op in EFFECTS:
        action = EFFECTS[op]
        frame.slots[d] = action(machine, frame, slots)
        return
    kinds, kind, compute = OPERATIONS[op]
    words = [word_of(machine, frame.slots[slot], wanted) for wanted, slot in zip(kinds, slots)]
    try:
        result = compute(*words)
    except Raised as error:
        machine.make_room()
        machine.throw(machine.make("pack", EXCEPTIONS.index(error.name), ()))
        return
    if kind == "string":
        machine.make_room()
        frame.slots[d] = machine.make("string", result, ())
    else:
        frame.slots[d] = ("tag", 1 if result else 0) if kind == "bool" else ("int", result)


def word_of(machine, value, kind):
    """The integer or the text of a value, which must be of the kind."""
    if kind == "string":
        return machine.object_of(value, kind)[1]
    demand(value[0] == kind)
    return value[1]


def print_text(machine, frame, slots):
    """Prints a string."""
    text = word_of(machine, frame.slots[slots[0]], "string")
    if len(machine.outputs) >= MOST_OUTPUTS:
        raise Ended(FULL)
    machine.outputs.append(text)
    return EMPTY


def make_reference(machine, frame, slots):
    """A new reference."""
    if machine.references >= MOST_REFERENCES:
        raise Ended(FULL)
    machine.references += 1
    machine.make_room()
    return machine.make("ref", 0, (frame.slots[slots[0]],))


def read_reference(machine, frame, slots):
    """What a reference holds."""
    return machine.object_of(frame.slots[slots[0]], "ref")[2][0]


def write_reference(machine, frame, slots):
    """Changes what a reference holds."""
    reference, content = [frame.slots[slot] for slot in slots]
    machine.object_of(reference, "ref")
    machine.heap.store(reference, content)
    return EMPTY


def do_tuple(machine, frame, instruction):
    """A tuple."""
    _, d, slots = instruction
    machine.make_room()
    frame.slots[d] = machine.make("tuple", 0, tuple([frame.slots[slot] for slot in slots]))


def do_part(machine, frame, instruction):
    """A component of a tuple."""
    _, d, i, s = instruction
    _, _, fields = machine.object_of(frame.slots[s], "tuple")
    demand(i < len(fields))
    frame.slots[d] = fields[i]


def do_make(machine, frame, instruction):
    """A constructor with an argument, or a closure."""
    tag, d, word, s = instruction
    machine.make_room()
    frame.slots[d] = machine.make(tag, word, (frame.slots[s],))


def do_arg(machine, frame, instruction):
    """The argument of a value."""
    _, d, s = instruction
    value = frame.slots[s]
    demand(value[0] == "at")
    kind, _, fields = machine.heap.look(value)
    demand(kind in ("make", "pack") and fields != ())
    frame.slots[d] = fields[0]


def do_fresh(machine, frame, instruction):
    """A new exception."""
    _, d, i = instruction
    frame.slots[d] = ("int", len(EXCEPTIONS) + len(machine.declared))
    machine.declared.append(i)


def do_pack(machine, frame, instruction):
    """An exception value."""
    _, d, z, s = instruction
    number = word_of(machine, frame.slots[z], "int")
    demand(0 <= number < len(EXCEPTIONS) + len(machine.declared))
    machine.make_room()
    frame.slots[d] = machine.make("pack", number, () if s is None else (frame.slots[s],))


def do_call(machine, frame, instruction):
    """A call."""
    _, d, f, a = instruction
    machine.spend()
    _, number, fields = machine.object_of(frame.slots[f], "close")
    if len(machine.frames) >= MOST_FRAMES:
        raise Ended(FULL)
    machine.frames.append(Frame(machine.code[number][1], {0: fields[0], 1: frame.slots[a]}, d))


def do_tail(machine, frame, instruction):
    """A call in the place of its function."""
    _, f, a = instruction
    machine.spend()
    _, number, fields = machine.object_of(frame.slots[f], "close")
    frame.slots = {0: fields[0], 1: frame.slots[a]}
    frame.row = machine.code[number][1]
    frame.at = 0


def do_return(machine, frame, instruction):
    """The value of a function."""
    value = frame.slots[instruction[1]]
    machine.leave()
    if machine.frames:
        caller = machine.frames[-1]
        caller.slots[frame.receiver] = value
    else:
        machine.result = value


def do_jump(machine, frame, instruction):
    """Goes on with another instruction."""
    frame.at = instruction[1]


def do_switch(machine, frame, instruction):
    """Selects by a constructor."""
    value = frame.slots[instruction[1]]
    if value[0] == "tag":
        jump_by(frame, instruction, value[1])
    else:
        jump_by(frame, instruction, machine.object_of(value, "make")[1])


def do_choose(machine, frame, instruction):
    """Selects by an integer or a string."""
    value = frame.slots[instruction[1]]
    if value[0] == "at":
        value = machine.object_of(value, "string")
    demand(value[0] in kinds_chosen(instruction[2]))
    jump_by(frame, instruction, value[1])


def jump_by(frame, instruction, selector):
    """Goes on with a branch."""
    for key, target in instruction[2]:
        if key == selector:
            frame.at = target
            return
    demand(instruction[3] is not None)
    frame.at = instruction[3]


def do_same(machine, frame, instruction):
    """Jumps if an exception value is one of an exception."""
    _, s, z, target = instruction
    _, found, _ = machine.object_of(frame.slots[s], "pack")
    if found == word_of(machine, frame.slots[z], "int"):
        frame.at = target


def do_guard(machine, frame, instruction):
    """Begins a guard."""
    frame.guards.append(instruction[1:])


def do_unguard(machine, frame, instruction):
    """Ends the guard that was begun last."""
    frame.guards.pop()


def do_raise(machine, frame, instruction):
    """Raises an exception value."""
    value = frame.slots[instruction[1]]
    machine.object_of(value, "pack")
    machine.throw(value)


EFFECTS = {"print": print_text, "ref": make_reference, "get": read_reference, "assign": write_reference}
INSTRUCTIONS = {
    "int": do_constant, "string": do_string, "tag": do_constant, "move": do_move, "prim": do_prim, "tuple": do_tuple,
    "part": do_part, "make": do_make, "arg": do_arg, "fresh": do_fresh, "pack": do_pack, "close": do_make,
    "call": do_call, "tail": do_tail, "return": do_return, "jump": do_jump, "switch": do_switch,
    "choose": do_choose, "same": do_same, "guard": do_guard, "unguard": do_unguard, "raise": do_raise,
}
