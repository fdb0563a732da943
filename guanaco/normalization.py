"""The translation of core programs to the normal form (point 104).

Two translations of an expression are noted as work: `compute` adds the steps N, and leaves the atom that stands for
the value; `finish` adds the steps of T, and leaves the block.
"""

from guanaco.start import EXCEPTIONS


class Normalizer:
    """What is still to be translated (the last thing first), and the atoms and blocks that were found.

    An entry of `work` is a function of this file, what it is about, and the list that gets the steps. `atoms` has
    what stands for the variables and exceptions of the core program.
    """

    def __init__(self):
        self.count = 0
        self.atoms = {z: ("int", k) for k, z in enumerate(EXCEPTIONS)}
        self.exceptions = []
        self.work = []
        self.done = []

    def fresh(self):
        """A new name."""
        self.count += 1
        return self.count - 1

    def bind(self, x):
        """A new name for a variable."""
        name = self.fresh()
        self.atoms[x] = ("name", name)
        return name

    def later(self, action, what, steps):
        """Notes what is to be done next."""
        self.work.append((action, what, steps))

    def go(self):
        """Does all that is to be done."""
        while self.work:
            action, what, steps = self.work.pop()
            action(self, what, steps)

    def later_parts(self, parts, steps):
        """Notes expressions to be computed, the first one next."""
        for e in reversed(parts):
            self.later(compute, e, steps)

    def take(self, count):
        """The list of the last results."""
        first = len(self.done) - count
        found = self.done[first:]
        del self.done[first:]
        return found

    def add(self, operation, steps):
        """Adds the step of an operation, whose name is the result."""
        name = self.fresh()
        steps.append(("bind", name, operation))
        self.done.append(("name", name))


def translated(core):
    """The block of a core program, and the exceptions that it declares."""
    return translate(Normalizer(), core, [])


def translated_unit(core, imports):
    """As `translated`, for the block of a unit, which gives a function of the tuple of its imports' values.

    `imports` has the index of an import, and the pairs of a variable and an index of its values, for each one with
    values.
    """
    normalizer = Normalizer()
    f = normalizer.fresh()
    p = normalizer.fresh()
    steps = []
    for place, values in imports:
        y = normalizer.fresh()
        steps.append(("bind", y, ("part", place, ("name", p))))
        for x, index in values:
            steps.append(("bind", normalizer.bind(x), ("part", index, ("name", y))))
    block, exceptions = translate(normalizer, core, steps)
    return ((("fix", ((f, p, block),)),), ("give", ("name", f))), exceptions


def translate(normalizer, core, steps):
    """As `translated`, with steps at the beginning of the block."""
    _, declarations, shown = core
    normalizer.later(end_program, [x for _, _, x, _, _ in shown], steps)
    for declaration in reversed(declarations):
        normalizer.later(declare, declaration, steps)
    normalizer.go()
    return normalizer.done[0], tuple(normalizer.exceptions)


def end_program(normalizer, variables, steps):
    """The end of the block of a program."""
    if variables:
        normalizer.add(("tuple", tuple([normalizer.atoms[x] for x in variables])), steps)
    else:
        normalizer.done.append(("tag", 0))
    end_give(normalizer, None, steps)


def declare(normalizer, declaration, steps):
    """A declaration."""
    tag = declaration[0]
    if tag == "let":
        normalizer.later(end_let, declaration[1], steps)
        normalizer.later(compute, declaration[4], steps)
    elif tag == "fix":
        functions = []
        for f, _, _, _, _, _ in declaration[1]:
            normalizer.bind(f)
        for f, _, _, x, _, e in declaration[1]:
            functions.append((normalizer.atoms[f][1], normalizer.bind(x), e))
        later_functions(normalizer, functions, steps)
    else:
        _, z, ty = declaration
        steps.append(("bind", normalizer.bind(z), ("fresh", len(normalizer.exceptions))))
        normalizer.exceptions.append((z.partition(".")[0], ty))


def end_let(normalizer, x, steps):
    """A `let` behind its expression."""
    normalizer.atoms[x] = normalizer.done.pop()


def later_functions(normalizer, functions, steps):
    """Notes the functions of a group: triples of two names and an expression."""
    normalizer.later(end_functions, functions, steps)
    for _, _, e in reversed(functions):
        normalizer.later(finish, e, [])


def end_functions(normalizer, functions, steps):
    """A group of functions behind their blocks."""
    blocks = normalizer.take(len(functions))
    steps.append(("fix", tuple([(f, p, block) for (f, p, _), block in zip(functions, blocks)])))


def compute(normalizer, e, steps):
    """Leaves an atom for the value of an expression."""
    tag = e[0]
    if tag in OPERATIONS:
        rule = OPERATIONS[tag]
        rule(normalizer, e, steps)
    elif tag in ("int", "string"):
        normalizer.done.append(e)
    elif tag == "var":
        normalizer.done.append(normalizer.atoms[e[1]])
    elif tag == "fn":
        name = normalizer.fresh()
        normalizer.later(end_fn, ("name", name), steps)
        later_functions(normalizer, [(name, normalizer.bind(e[1]), e[3])], steps)
    elif tag == "block":
        normalizer.later(compute, e[2], steps)
        later_declarations(normalizer, e, steps)
    elif tag == "handle":
        name = normalizer.fresh()
        normalizer.later(end_handle, (name, normalizer.bind(e[2])), steps)
        normalizer.later(finish, e[3], [])
        normalizer.later(finish, e[1], [])
    else:
        normalizer.later(end_sub, None, steps)
        normalizer.later(finish, e, [])


def later_declarations(normalizer, e, steps):
    """Notes the declarations of a block."""
    for declaration in reversed(e[1]):
        normalizer.later(declare, declaration, steps)


def end_fn(normalizer, atom, steps):
    """The result of a function."""
    normalizer.done.append(atom)


def end_handle(normalizer, names, steps):
    """A `handle` behind its blocks."""
    name, h = names
    first, second = normalizer.take(2)
    steps.append(("guard", name, first, h, second))
    normalizer.done.append(("name", name))


def end_sub(normalizer, what, steps):
    """A block whose value is named."""
    name = normalizer.fresh()
    steps.append(("sub", name, normalizer.done.pop()))
    normalizer.done.append(("name", name))


def compute_apply(normalizer, e, steps):
    """An application."""
    normalizer.later(end_apply, e, steps)
    normalizer.later_parts(e[1:], steps)


def end_apply(normalizer, e, steps):
    """An application behind its parts."""
    function, argument = normalizer.take(2)
    normalizer.add(("apply", function, argument), steps)


def compute_tuple(normalizer, e, steps):
    """A tuple."""
    if not e[1]:
        normalizer.done.append(("tag", 0))
        return
    normalizer.later(end_tuple, e, steps)
    normalizer.later_parts(e[1], steps)


def end_tuple(normalizer, e, steps):
    """A tuple behind its parts."""
    normalizer.add(("tuple", tuple(normalizer.take(len(e[1])))), steps)


def compute_part(normalizer, e, steps):
    """A component of a tuple."""
    normalizer.later(end_part, e, steps)
    normalizer.later(compute, e[2], steps)


def end_part(normalizer, e, steps):
    """A component behind the tuple."""
    normalizer.add(("part", e[1], normalizer.done.pop()), steps)


def compute_con(normalizer, e, steps):
    """A constructor."""
    if e[4] is None:
        normalizer.done.append(("tag", e[3]))
        return
    normalizer.later(end_con, e, steps)
    normalizer.later(compute, e[4], steps)


def end_con(normalizer, e, steps):
    """A constructor behind its argument."""
    normalizer.add(("make", e[3], normalizer.done.pop()), steps)


def compute_pack(normalizer, e, steps):
    """An exception value."""
    if e[2] is None:
        normalizer.done.append(None)
        end_pack(normalizer, e, steps)
        return
    normalizer.later(end_pack, e, steps)
    normalizer.later(compute, e[2], steps)


def end_pack(normalizer, e, steps):
    """An exception value behind its argument."""
    normalizer.add(("pack", normalizer.atoms[e[1]], normalizer.done.pop()), steps)


def compute_prim(normalizer, e, steps):
    """A primitive."""
    normalizer.later(end_prim, e, steps)
    normalizer.later_parts(e[2], steps)


def end_prim(normalizer, e, steps):
    """A primitive behind its parts."""
    normalizer.add(("prim", e[1], tuple(normalizer.take(len(e[2])))), steps)


def finish(normalizer, e, steps):
    """Leaves a block with the value of an expression."""
    tag = e[0]
    if tag == "block":
        normalizer.later(finish, e[2], steps)
        later_declarations(normalizer, e, steps)
    elif tag == "raise":
        normalizer.later(end_throw, None, steps)
        normalizer.later(compute, e[2], steps)
    elif tag in ("switch", "choose", "unpack"):
        finish_selection(normalizer, e, steps)
    else:
        normalizer.later(end_give, None, steps)
        normalizer.later(compute, e, steps)


def end_give(normalizer, what, steps):
    """A block that gives the last atom."""
    normalizer.done.append((tuple(steps), ("give", normalizer.done.pop())))


def end_throw(normalizer, what, steps):
    """A block that raises the last atom."""
    normalizer.done.append((tuple(steps), ("throw", normalizer.done.pop())))


def finish_selection(normalizer, e, steps):
    """A selection."""
    tag, x, branches, default = e
    atom = normalizer.atoms[x]
    selectors = []
    rows = []
    for branch in branches:
        selectors.append(normalizer.atoms[branch[0]] if tag == "unpack" else branch[0])
        beginning = []
        if tag != "choose" and branch[1] is not None:
            beginning.append(("bind", normalizer.bind(branch[1]), ("arg", atom)))
        rows.append((branch[-1], beginning))
    if default is not None:
        rows.append((default, []))
    normalizer.later(end_selection, (tag, atom, selectors, default is not None), steps)
    for inner, beginning in reversed(rows):
        normalizer.later(finish, inner, beginning)


def end_selection(normalizer, what, steps):
    """A selection behind its blocks."""
    tag, atom, selectors, has_default = what
    default = normalizer.done.pop() if has_default else None
    blocks = normalizer.take(len(selectors))
    end = (tag, atom, tuple(list(zip(selectors, blocks))), default)
    normalizer.done.append((tuple(steps), end))


OPERATIONS = {
    "apply": compute_apply, "tuple": compute_tuple, "part": compute_part, "con": compute_con, "pack": compute_pack,
    "prim": compute_prim,
}
