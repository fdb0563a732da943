"""The instructions in which core programs are run (point 84).

An instruction is a tuple that begins with a function of this file. A row of instructions is done in order; those of
a branch or of a function are a row of their own. Each of them finds its values at the end of `stack`, and puts its
result there.

Values are `("int", n)`, `("string", s)`, `("tuple", values)`, `("con", k, value or None, name)`,
`("exn", exception, value or None)`, `("closure", x, row, frame)` and `("ref", cell)`.
"""

from guanaco.environment import Exn
from guanaco.primitives import Raised
from guanaco.store import Ended, Store

NO = ("con", 0, None, "False")
YES = ("con", 1, None, "True")
NOTHING = ("tuple", ())
STUCK = ("stuck",)


class Frame:
    """The variables of one call of a function, and the frame in which the function was made."""

    def __init__(self, table, outer):
        self.table = table
        self.outer = outer

    def further(self, up):
        """The frame so many functions further out."""
        place = self
        for _ in range(up):
            place = place.outer
        return place


class Runner:
    """A run: the row that is done, the index of the next instruction, its frame, and what follows the row.

    An entry of `waiting` is a row, an index, a frame, and None or what takes an exception: the variable for it, a
    row, and the length that the stack had.
    """

    def __init__(self, row, fuel):
        self.ledger = Store(fuel, NO, YES, NOTHING)
        self.base = {name: Exn(name) for name in ("Overflow", "Div", "Size", "Subscript")}
        self.row = row
        self.index = 0
        self.frame = Frame(dict(self.base), None)
        self.stack = []
        self.waiting = []

    def go(self):
        """Does all that there is to do."""
        while True:
            if self.index < len(self.row):
                instruction = self.row[self.index]
                self.index += 1
                action = instruction[0]
                action(self, instruction)
            elif self.waiting:
                self.row, self.index, self.frame, _ = self.waiting.pop()
            else:
                return

    def enter(self, row, frame):
        """Goes on with a row, and then with what followed."""
        if self.index < len(self.row):
            self.waiting.append((self.row, self.index, self.frame, None))
        self.row = row
        self.index = 0
        self.frame = frame

    def take(self, count):
        """The tuple of the last values."""
        first = len(self.stack) - count
        found = tuple(self.stack[first:])
        del self.stack[first:]
        return found

    def throw(self, value):
        """Goes on with what takes an exception."""
        while self.waiting:
            row, index, frame, taker = self.waiting.pop()
            if taker is not None:
                x, second, height = taker
                del self.stack[height:]
                self.row, self.index, self.frame = row, index, frame
                frame.table[x] = value
                self.enter(second, frame)
                return
        # Kept as a value: its tree is made at the end.
        raise Ended(("raised", value))


def fail(runner, instruction):
    """What can not be done."""
    raise Ended(STUCK)


def push(runner, instruction):
    """A value that is known."""
    runner.stack.append(instruction[1])


def load(runner, instruction):
    """A variable."""
    runner.stack.append(runner.frame.further(instruction[1]).table[instruction[2]])


def bind(runner, instruction):
    """Gives a variable its value."""
    runner.frame.table[instruction[1]] = runner.stack.pop()


def close(runner, instruction):
    """A function."""
    _, x, row = instruction
    runner.stack.append(("closure", x, row, runner.frame))


def fix(runner, instruction):
    """Functions that may call one another."""
    for f, x, row in instruction[1]:
        runner.frame.table[f] = ("closure", x, row, runner.frame)


def declare_exception(runner, instruction):
    """A new exception."""
    _, z = instruction
    runner.frame.table[z] = Exn(z.partition(".")[0])


def call(runner, instruction):
    """Applies a function."""
    argument = runner.stack.pop()
    function = runner.stack.pop()
    runner.ledger.spend()
    if function[0] != "closure":
        raise Ended(STUCK)
    _, x, row, frame = function
    runner.enter(row, Frame({x: argument}, frame))


def prim(runner, instruction):
    """Applies a primitive."""
    _, name, count = instruction
    parts = runner.take(count)
    runner.ledger.spend()
    try:
        runner.stack.append(runner.ledger.primitive(name, parts))
    except Raised as error:
        runner.throw(("exn", runner.base[error.name], None))


def make_tuple(runner, instruction):
    """A tuple."""
    runner.stack.append(("tuple", runner.take(instruction[1])))


def part(runner, instruction):
    """A component of a tuple."""
    value = runner.stack.pop()
    if value[0] != "tuple" or instruction[1] >= len(value[1]):
        raise Ended(STUCK)
    runner.stack.append(value[1][instruction[1]])


def make_con(runner, instruction):
    """A constructor with an argument."""
    _, k, name = instruction
    runner.stack.append(("con", k, runner.stack.pop(), name))


def make_exception(runner, instruction):
    """An exception value."""
    _, up, z, has_argument = instruction
    argument = runner.stack.pop() if has_argument else None
    runner.stack.append(("exn", runner.frame.further(up).table[z], argument))


def throw_value(runner, instruction):
    """Raises an exception value."""
    value = runner.stack.pop()
    if value[0] != "exn":
        raise Ended(STUCK)
    runner.throw(value)


def guard(runner, instruction):
    """Goes on with the first part of a `handle`."""
    _, first, x, second = instruction
    runner.waiting.append((runner.row, runner.index, runner.frame, (x, second, len(runner.stack))))
    runner.row = first
    runner.index = 0


def selected(runner, instruction, kinds):
    """The value of the variable of a selection, which must be of one of these kinds."""
    value = runner.frame.further(instruction[1]).table[instruction[2]]
    if value[0] not in kinds:
        raise Ended(STUCK)
    return value


def enter_branch(runner, y, argument, row):
    """Goes on with a branch that may bind the argument of a value."""
    if y is not None:
        if argument is None:
            raise Ended(STUCK)
        runner.frame.table[y] = argument
    runner.enter(row, runner.frame)


def switch(runner, instruction):
    """Selects by a constructor."""
    _, _, _, branches, default = instruction
    _, k, argument, _ = selected(runner, instruction, ("con",))
    if k in branches:
        y, row = branches[k]
        enter_branch(runner, y, argument, row)
    elif default is None:
        raise Ended(STUCK)
    else:
        runner.enter(default, runner.frame)


def choose(runner, instruction):
    """Selects by an integer or a string."""
    _, _, _, branches, default, kinds = instruction
    value = selected(runner, instruction, kinds)
    runner.enter(branches.get(value[1], default), runner.frame)


def unpack(runner, instruction):
    """Selects by an exception. What stands for one that is not in scope is None."""
    _, _, _, branches, default = instruction
    _, exception, argument = selected(runner, instruction, ("exn",))
    for place, y, row in branches:
        if place is None:
            raise Ended(STUCK)
        up, z = place
        if runner.frame.further(up).table[z] == exception:
            enter_branch(runner, y, argument, row)
            return
    runner.enter(default, runner.frame)
