"""Translates core programs to the instructions in which they are run.

What is not in scope, or is no value in any run, becomes the instruction `fail`.
"""

from guanaco.core_steps import bind, call, choose, close, declare_exception, fail, fix, guard, load, make_con
from guanaco.core_steps import make_exception, make_tuple, part, prim, push, switch, throw_value, unpack
from guanaco.primitives import LONGEST_STRING, in_range
from guanaco.start import EXCEPTIONS
from guanaco.store import kinds_chosen


class Coder:
    """What is still to be translated (the last thing first), and at what depth of functions variables are bound.

    An entry of `work` is a function of this file, what it translates, and the row for its instructions. Exceptions
    are in scope under pairs of True and their names.
    """

    def __init__(self, data):
        self.data = {name: constructors for name, _, constructors in data}
        self.work = []
        self.scope = {(True, z): 0 for z in EXCEPTIONS}
        self.depth = 0

    def later(self, action, thing, row):
        """Notes what is to be translated next."""
        self.work.append((action, thing, row))

    def go(self):
        """Translates all that was noted."""
        while self.work:
            action, thing, row = self.work.pop()
            action(self, thing, row)

    def later_parts(self, parts, row):
        """Notes expressions, the first one of which is to be translated next."""
        for e in reversed(parts):
            self.later(visit, e, row)

    def new_row(self, e):
        """A new row, with the expression noted whose instructions it gets."""
        row = []
        self.later(visit, e, row)
        return row

    def up(self, key):
        """How many functions further out a variable is bound, or None if it is not in scope."""
        return self.depth - self.scope[key] if key in self.scope else None


def core_row(data, declarations, shown):
    """The row for the declarations of a core program, which leaves the values of the shown variables."""
    coder = Coder(data)
    row = []
    coder.later_parts([("var", x, ()) for _, _, x, _, _ in shown], row)
    for declaration in reversed(declarations):
        coder.later(declare, declaration, row)
    coder.go()
    return row


def emit(coder, instruction, row):
    """Adds an instruction."""
    row.append(instruction)


def visit(coder, e, row):
    """Translates an expression."""
    rule = EXPRESSIONS[e[0]]
    rule(coder, e, row)


def come(coder, key, row):
    """A variable comes into scope."""
    coder.scope[key] = coder.depth


def leave(coder, key, row):
    """A variable is no longer in scope."""
    del coder.scope[key]


def deeper(coder, x, row):
    """The beginning of the body of a function."""
    coder.depth += 1
    coder.scope[x] = coder.depth


def higher(coder, x, row):
    """The end of the body of a function."""
    coder.depth -= 1
    del coder.scope[x]


def body_row(coder, x, e):
    """The new row for the body of a function, with what it needs noted."""
    coder.later(higher, x, None)
    row = coder.new_row(e)
    coder.later(deeper, x, None)
    return row


def declare(coder, declaration, row):
    """A declaration."""
    tag = declaration[0]
    if tag == "let":
        _, x, _, _, e = declaration
        coder.later(come, x, row)
        coder.later(emit, (bind, x), row)
        coder.later(visit, e, row)
    elif tag == "fix":
        for f, _, _, _, _, _ in declaration[1]:
            come(coder, f, row)
        functions = [(f, x, body_row(coder, x, e)) for f, _, _, x, _, e in declaration[1]]
        row.append((fix, functions))
    else:
        come(coder, (True, declaration[1]), row)
        row.append((declare_exception, declaration[1]))


def visit_int(coder, e, row):
    """An integer."""
    row.append((push, e) if in_range(e[1]) else (fail,))


def visit_string(coder, e, row):
    """A string."""
    row.append((push, e) if len(e[1]) <= LONGEST_STRING else (fail,))


def visit_var(coder, e, row):
    """A variable."""
    up = coder.up(e[1])
    row.append((fail,) if up is None else (load, up, e[1]))


def visit_fn(coder, e, row):
    """A function."""
    _, x, _, body = e
    row.append((close, x, body_row(coder, x, body)))


def visit_apply(coder, e, row):
    """An application."""
    coder.later(emit, (call,), row)
    coder.later_parts(e[1:], row)


def visit_block(coder, e, row):
    """A block."""
    for declaration in e[1]:
        if declaration[0] == "fix":
            for function in declaration[1]:
                coder.later(leave, function[0], row)
        else:
            coder.later(leave, (True, declaration[1]) if declaration[0] == "exception" else declaration[1], row)
    coder.later(visit, e[2], row)
    for declaration in reversed(e[1]):
        coder.later(declare, declaration, row)


def visit_tuple(coder, e, row):
    """A tuple."""
    coder.later(emit, (make_tuple, len(e[1])), row)
    coder.later_parts(e[1], row)


def visit_part(coder, e, row):
    """A component of a tuple."""
    coder.later(emit, (part, e[1]), row)
    coder.later(visit, e[2], row)


def visit_con(coder, e, row):
    """A constructor."""
    _, name, _, k, argument = e
    if name not in coder.data or k >= len(coder.data[name]):
        coder.later(emit, (fail,), row)
    elif argument is None:
        coder.later(emit, (push, ("con", k, None, coder.data[name][k][0])), row)
    else:
        coder.later(emit, (make_con, k, coder.data[name][k][0]), row)
    if argument is not None:
        coder.later(visit, argument, row)


def visit_pack(coder, e, row):
    """An exception value."""
    _, z, argument = e
    up = coder.up((True, z))
    coder.later(emit, (fail,) if up is None else (make_exception, up, z, argument is not None), row)
    if argument is not None:
        coder.later(visit, argument, row)


def visit_raise(coder, e, row):
    """A `raise`."""
    coder.later(emit, (throw_value,), row)
    coder.later(visit, e[2], row)


def branch_row(coder, y, e):
    """The new row for a branch that may bind a variable."""
    if y is not None:
        coder.later(leave, y, None)
    row = coder.new_row(e)
    if y is not None:
        coder.later(come, y, None)
    return row


def visit_handle(coder, e, row):
    """A `handle`."""
    _, first, x, second = e
    row.append((guard, coder.new_row(first), x, branch_row(coder, x, second)))


def visit_selection(coder, e, row):
    """A `switch`, a `choose` or an `unpack`."""
    tag, x, branches, default = e
    up = coder.up(x)
    other = None if default is None else coder.new_row(default)
    if tag == "switch":
        table = {k: (y, branch_row(coder, y, inner)) for k, y, inner in branches}
        instruction = (switch, up, x, table, other)
    elif tag == "choose":
        table = {c: coder.new_row(inner) for c, inner in branches}
        instruction = (choose, up, x, table, other, kinds_chosen(branches))
    else:
        rows = []
        for z, y, inner in branches:
            above = coder.up((True, z))
            rows.append((None if above is None else (above, z), y, branch_row(coder, y, inner)))
        instruction = (unpack, up, x, rows, other)
    row.append((fail,) if up is None else instruction)


def visit_prim(coder, e, row):
    """A primitive."""
    coder.later(emit, (prim, e[1], len(e[2])), row)
    coder.later_parts(e[2], row)


EXPRESSIONS = {
    "int": visit_int, "string": visit_string, "var": visit_var, "fn": visit_fn, "apply": visit_apply,
    "block": visit_block, "tuple": visit_tuple, "part": visit_part, "con": visit_con, "switch": visit_selection,
    "choose": visit_selection, "unpack": visit_selection, "pack": visit_pack, "raise": visit_raise,
    "handle": visit_handle, "prim": visit_prim,
}
