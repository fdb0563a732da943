"""Sound code (point 114)."""

from guanaco.errors import GuanacoError
from guanaco.instructions import slots_of, slots_read, targets
from guanaco.primitives import is_primitive, takes_pair

# Behind these the next instruction is not executed.
LAST = ("tail", "return", "jump", "switch", "choose", "raise")


class Unsound(GuanacoError):
    """Code is not sound."""


class Ways:
    """The instructions of a function that ways from the first one reach.

    `filled` has for each of them the slots that have a value on every way, as a sum of bits, and `guards` the number
    of open guards.
    """

    def __init__(self, row):
        self.row = row
        self.bits = {}
        self.filled = {}
        self.guards = {}
        self.work = []

    def bit(self, slot):
        """The bit of a slot. Slots get theirs as they come, since their numbers may be large."""
        if slot not in self.bits:
            self.bits[slot] = 1 << len(self.bits)
        return self.bits[slot]

    def reach(self, at, filled, guards):
        """Notes a way to an instruction."""
        if at not in self.filled:
            self.filled[at] = filled
            self.guards[at] = guards
            self.work.append(at)
            return
        demand(self.guards[at] == guards)
        both = self.filled[at] & filled
        if both != self.filled[at]:
            self.filled[at] = both
            self.work.append(at)

    def go_on(self, at):
        """Looks at an instruction, and at the ways from it."""
        instruction = self.row[at]
        tag = instruction[0]
        filled = self.filled[at]
        guards = self.guards[at]
        for slot in slots_read(instruction):
            demand(filled & self.bit(slot) != 0)
        if tag == "guard":
            self.reach(instruction[2], filled | self.bit(instruction[1]), guards)
            self.reach(at + 1, filled, guards + 1)
            return
        demand(tag not in ("tail", "return") or guards == 0)
        demand(tag != "unguard" or guards > 0)
        for slot in slots_of(instruction):
            # Those that are read have a value already, so that this adds the slot that receives one.
            filled = filled | self.bit(slot)
        for target in targets(instruction):
            self.reach(target, filled, guards)
        if tag not in LAST:
            self.reach(at + 1, filled, guards - 1 if tag == "unguard" else guards)


def demand(test):
    """Code is not sound unless a test holds."""
    if not test:
        raise Unsound("code is not sound")


def is_sound(code):
    """Whether code is sound."""
    try:
        for slots, row in code:
            check_numbers(slots, row, len(code))
            check_ways(row)
    except Unsound:
        return False
    return True


def check_numbers(slots, row, functions):
    """Raises Unsound if a number, a primitive or the last instruction of a function is wrong."""
    demand(row[-1][0] in LAST)
    for instruction in row:
        for slot in slots_of(instruction):
            demand(slot < slots)
        for target in targets(instruction):
            demand(target < len(row))
        if instruction[0] == "close":
            demand(instruction[2] < functions)
        elif instruction[0] == "prim":
            _, _, op, parts = instruction
            demand(is_primitive(op) and len(parts) == (2 if takes_pair(op) else 1))


def check_ways(row):
    """Raises Unsound if an empty slot can be read, or guards do not fit."""
    ways = Ways(row)
    ways.reach(0, ways.bit(0) | ways.bit(1), 0)
    while ways.work:
        ways.go_on(ways.work.pop())
