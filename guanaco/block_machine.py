"""Runs of functions without free variables (points 105 and 108).

Values are `("int", n)`, `("string", s)`, `("tag", k)`, `("tuple", values)`, `("make", k, value)`,
`("pack", exception, value or None)`, `("close", number, environment)` and `("ref", cell)`.
"""

from guanaco.primitives import Raised
from guanaco.start import EXCEPTIONS
from guanaco.store import Ended, Store, kinds_chosen
from guanaco.typed_values import Tables, finished, shown_values

STUCK = ("stuck",)
EMPTY = ("tag", 0)


class Machine:
    """A run: the block that is done, the index of its next step, and the values of the names of its function.

    An entry of `waiting` is what follows a block: the name that gets its value, the block around it, the index of the
    next step there, the values of the names there, and None or a guard's `h` and second block.
    """

    def __init__(self, functions, fuel):
        self.functions = functions
        self.ledger = Store(fuel, EMPTY, ("tag", 1), EMPTY)
        self.declared = []
        self.waiting = []
        self.frame = {}
        self.block = None
        self.index = 0
        self.result = None
        self.call(0, EMPTY, EMPTY)

    def call(self, number, environment, argument):
        """Goes on with the block of a function."""
        place, parameter, block = self.functions[number]
        self.frame = {place: environment, parameter: argument}
        self.block = block
        self.index = 0

    def read(self, atom):
        """The value of an atom."""
        return self.frame[atom[1]] if atom[0] == "name" else atom

    def go(self):
        """Does all that there is to do. The value of the block of function 0."""
        while self.result is None:
            steps, end = self.block
            if self.index < len(steps):
                step = steps[self.index]
                self.index += 1
                action = STEPS[step[0]]
                action(self, step)
            else:
                action = ENDS[end[0]]
                action(self, end)
        return self.result

    def wait(self, name, taker):
        """Notes what follows a block whose value gets a name."""
        self.waiting.append((name, self.block, self.index, self.frame, taker))

    def give(self, value):
        """Ends the block with a value."""
        if not self.waiting:
            self.result = value
            return
        name, self.block, self.index, self.frame, _ = self.waiting.pop()
        self.frame[name] = value

    def throw(self, value):
        """Raises an exception value."""
        while self.waiting:
            name, block, index, frame, taker = self.waiting.pop()
            if taker is not None:
                h, second = taker
                self.waiting.append((name, block, index, frame, None))
                frame[h] = value
                self.enter(second, frame)
                return
        # Kept as a value: its tree is made at the end.
        raise Ended(("raised", value))

    def enter(self, block, frame):
        """Goes on with a block."""
        self.block = block
        self.index = 0
        self.frame = frame


def run_blocks(functions, info, fuel):
    """The run of functions, beginning with function 0."""
    machine = Machine(functions, fuel)
    tables = Tables(info, machine.declared, object_of)
    try:
        end = shown_values(tables, machine.go())
    except Ended as error:
        end = error.end
    return tuple(machine.ledger.outputs), finished(tables, end)


def object_of(value):
    """What a value is, for its value tree."""
    kind, word, *rest = value
    if kind == "tuple":
        return kind, None, word
    if kind == "ref":
        return kind, None, (word.content,)
    return kind, word, tuple([part for part in rest if part is not None])


def do_bind(machine, step):
    """A step that names the result of an operation."""
    _, name, operation = step
    action = OPERATIONS[operation[0]]
    action(machine, name, operation)


def do_sub(machine, step):
    """A step that names the value of a block."""
    machine.wait(step[1], None)
    machine.enter(step[2], machine.frame)


def do_guard(machine, step):
    """A step that names the value of a block, or of another one that takes an exception."""
    _, name, first, h, second = step
    machine.wait(name, (h, second))
    machine.enter(first, machine.frame)


def do_prim(machine, name, operation):
    """A primitive."""
    parts = [machine.read(atom) for atom in operation[2]]
    machine.ledger.spend()
    try:
        machine.frame[name] = machine.ledger.primitive(operation[1], parts)
    except Raised as error:
        machine.throw(("pack", EXCEPTIONS.index(error.name), None))


def do_apply(machine, name, operation):
    """An application."""
    function = machine.read(operation[1])
    argument = machine.read(operation[2])
    machine.ledger.spend()
    if function[0] != "close":
        raise Ended(STUCK)
    steps, end = machine.block
    # What only gives the value on needs not wait for it.
    if machine.index < len(steps) or end[0] != "give" or end[1] != ("name", name):
        machine.wait(name, None)
    machine.call(function[1], function[2], argument)


def do_tuple(machine, name, operation):
    """A tuple."""
    machine.frame[name] = ("tuple", tuple([machine.read(atom) for atom in operation[1]]))


def do_part(machine, name, operation):
    """A component of a tuple."""
    value = machine.read(operation[2])
    if value[0] != "tuple" or operation[1] >= len(value[1]):
        raise Ended(STUCK)
    machine.frame[name] = value[1][operation[1]]


def do_make(machine, name, operation):
    """A constructor with an argument."""
    machine.frame[name] = ("make", operation[1], machine.read(operation[2]))


def do_fresh(machine, name, operation):
    """A new exception."""
    machine.frame[name] = ("int", len(EXCEPTIONS) + len(machine.declared))
    machine.declared.append(operation[1])


def do_pack(machine, name, operation):
    """An exception value."""
    _, z, atom = operation
    exception = machine.read(z)
    if exception[0] != "int" or not 0 <= exception[1] < len(EXCEPTIONS) + len(machine.declared):
        raise Ended(STUCK)
    machine.frame[name] = ("pack", exception[1], None if atom is None else machine.read(atom))


def do_arg(machine, name, operation):
    """The argument of a value."""
    value = machine.read(operation[1])
    if value[0] not in ("make", "pack") or value[2] is None:
        raise Ended(STUCK)
    machine.frame[name] = value[2]


def do_close(machine, name, operation):
    """A closure."""
    machine.frame[name] = ("close", operation[1], machine.read(operation[2]))


def end_give(machine, end):
    """The value of a block."""
    machine.give(machine.read(end[1]))


def end_throw(machine, end):
    """Raises an exception value."""
    value = machine.read(end[1])
    if value[0] != "pack":
        raise Ended(STUCK)
    machine.throw(value)


def end_switch(machine, end):
    """Selects by the number of a constructor."""
    value = machine.read(end[1])
    if value[0] not in ("tag", "make"):
        raise Ended(STUCK)
    go_on(machine, end, value[1])


def end_choose(machine, end):
    """Selects by an integer or a string."""
    value = machine.read(end[1])
    if value[0] not in kinds_chosen(end[2]):
        raise Ended(STUCK)
    go_on(machine, end, value[1])


def go_on(machine, end, selector):
    """Goes on with the block of a selection."""
    for wanted, block in end[2]:
        if wanted == selector:
            machine.enter(block, machine.frame)
            return
    if end[3] is None:
        raise Ended(STUCK)
    machine.enter(end[3], machine.frame)


def end_unpack(machine, end):
    """Selects by the exception of an exception value."""
    value = machine.read(end[1])
    if value[0] != "pack":
        raise Ended(STUCK)
    for z, block in end[2]:
        exception = machine.read(z)
        if exception[0] != "int":
            raise Ended(STUCK)
        if exception[1] == value[1]:
            machine.enter(block, machine.frame)
            return
    machine.enter(end[3], machine.frame)


STEPS = {"bind": do_bind, "sub": do_sub, "guard": do_guard}
OPERATIONS = {
    "prim": do_prim, "apply": do_apply, "tuple": do_tuple, "part": do_part, "make": do_make, "fresh": do_fresh,
    "pack": do_pack, "arg": do_arg, "close": do_close,
}
ENDS = {"give": end_give, "throw": end_throw, "switch": end_switch, "choose": end_choose, "unpack": end_unpack}
