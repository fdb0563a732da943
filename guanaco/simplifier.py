"""One walk through a block that reduces it at the places of point 106 (point 107)."""

from guanaco.blocks import end_atoms, operation_atoms, with_atoms
from guanaco.reductions import Survey, computed, is_pure, known_number, looks_inside, needed_names

NOTHING = ("tag", 0)


class Draft:
    """A block that is made: its steps, and its end as soon as it is known."""

    def __init__(self):
        self.steps = []
        self.end = None


class Simplifier:
    """What is still to be looked at, the next thing last, and the blocks that were made.

    `called` has the functions that may be put in the place of their only call, `needed` the names that are needed;
    `atoms` has what stands for names, `operations` what names are bound to, `numbers` the constructors of names
    within branches. An entry of `work` is a function of this file, what it is about, and a draft.
    """

    def __init__(self, block):
        self.called = Survey(block).called
        self.needed = needed_names(block)
        self.atoms = {}
        self.operations = {}
        self.numbers = {}
        self.work = []
        self.done = []

    def later(self, action, thing, draft):
        """Notes what is to be done next."""
        self.work.append((action, thing, draft))

    def atom(self, atom):
        """What stands for an atom."""
        return self.atoms.get(atom[1], atom) if atom[0] == "name" else atom

    def later_parts(self, block, draft):
        """Notes the steps and the end of a block, which go on a draft."""
        steps, end = block
        self.later(do_end, end, draft)
        for step in reversed(steps):
            self.later(do_step, step, draft)

    def later_block(self, block):
        """Notes a block that is to be made."""
        draft = Draft()
        self.later(close_draft, None, draft)
        self.later_parts(block, draft)


def simplified(block):
    """The block, reduced at all places at which a single walk can do it."""
    simplifier = Simplifier(block)
    simplifier.later_block(block)
    while simplifier.work:
        action, thing, draft = simplifier.work.pop()
        action(simplifier, thing, draft)
    return simplifier.done[0]


def close_draft(simplifier, thing, draft):
    """Makes a block of a draft."""
    simplifier.done.append((tuple(draft.steps), draft.end))


def do_step(simplifier, step, draft):
    """A step, which is omitted behind a `throw`."""
    if draft.end is None:
        action = STEPS[step[0]]
        action(simplifier, step, draft)


def do_bind(simplifier, step, draft):
    """A step that names the result of an operation."""
    _, x, operation = step
    if x not in simplifier.needed and is_pure(operation):
        return
    operation = with_atoms(operation, [simplifier.atom(atom) for atom in operation_atoms(operation)])
    found = replacement(simplifier, operation)
    if found is not None:
        simplifier.atoms[x] = found
    elif operation[0] == "apply" and operation[1][0] == "name" and operation[1][1] in simplifier.called:
        put_function(simplifier, x, operation, draft)
    else:
        simplifier.operations[x] = operation
        draft.steps.append(("bind", x, operation))


def replacement(simplifier, operation):
    """The atom that stands for the result of an operation, or None."""
    made = looks_inside(simplifier.operations, operation)
    if made is None:
        return computed(operation)
    if operation[0] == "arg":
        return made[2]
    # A component that is not there stands in what is never done.
    return made[1][operation[1]] if operation[1] < len(made[1]) else NOTHING


def put_function(simplifier, x, operation, draft):
    """Puts the steps of a function in the place of its only call."""
    parameter, (steps, end) = simplifier.called[operation[1][1]]
    simplifier.atoms[parameter] = operation[2]
    simplifier.later(end_function, (x, end), draft)
    for step in reversed(steps):
        simplifier.later(do_step, step, draft)


def end_function(simplifier, thing, draft):
    """The end of a function that was put in the place of its call, if none of its steps was a `throw`."""
    x, (tag, atom) = thing
    if tag == "give":
        simplifier.atoms[x] = simplifier.atom(atom)
    elif draft.end is None:
        draft.end = ("throw", simplifier.atom(atom))


def do_sub(simplifier, step, draft):
    """A step that names the value of a block."""
    _, x, block = step
    simplifier.later(end_sub, x, draft)
    simplifier.later_block(block)


def end_sub(simplifier, x, draft):
    """Such a step behind its block, whose steps are put in its place if it has a plain end."""
    steps, end = simplifier.done.pop()
    if end[0] not in ("give", "throw"):
        draft.steps.append(("sub", x, (steps, end)))
        return
    draft.steps.extend(steps)
    if end[0] == "give":
        simplifier.atoms[x] = end[1]
    else:
        draft.end = end


def do_guard(simplifier, step, draft):
    """A step that names the value of a block, or of another one that takes an exception."""
    simplifier.later(end_first, step, draft)
    simplifier.later_block(step[2])


def end_first(simplifier, step, draft):
    """Such a step behind its first block."""
    _, x, _, h, second = step
    first = simplifier.done.pop()
    steps, end = first
    if not steps and end[0] == "give":
        simplifier.atoms[x] = end[1]
    elif not steps and end[0] == "throw":
        simplifier.atoms[h] = end[1]
        do_sub(simplifier, ("sub", x, second), draft)
    else:
        simplifier.later(end_guard, (x, first, h), draft)
        simplifier.later_block(second)


def end_guard(simplifier, thing, draft):
    """Such a step behind both blocks."""
    x, first, h = thing
    draft.steps.append(("guard", x, first, h, simplifier.done.pop()))


def do_fix(simplifier, step, draft):
    """A step of functions."""
    group = step[1]
    if ("fix", group[0][0]) not in simplifier.needed or group[0][0] in simplifier.called:
        return
    simplifier.later(end_fix, group, draft)
    for _, _, block in reversed(group):
        simplifier.later_block(block)


def end_fix(simplifier, group, draft):
    """A step of functions behind their blocks."""
    first = len(simplifier.done) - len(group)
    functions = []
    for (f, p, _), block in zip(group, simplifier.done[first:]):
        functions.append((f, p, block))
    del simplifier.done[first:]
    draft.steps.append(("fix", tuple(functions)))


def do_end(simplifier, end, draft):
    """An end, which is omitted behind a `throw`."""
    if draft.end is not None:
        return
    tag = end[0]
    atoms = [simplifier.atom(atom) for atom in end_atoms(end)]
    if tag in ("give", "throw"):
        draft.end = (tag, atoms[0])
        return
    selector = known_selector(simplifier, tag, atoms[0])
    if selector is not None:
        blocks = [block for wanted, block in end[2] if wanted == selector]
        put_block(simplifier, blocks[0] if blocks else end[3], draft)
        return
    selectors = atoms[1:] if tag == "unpack" else [wanted for wanted, _ in end[2]]
    simplifier.later(end_selection, (tag, atoms[0], selectors, end[3] is not None), draft)
    if end[3] is not None:
        simplifier.later_block(end[3])
    for wanted, block in reversed(end[2]):
        knows = tag == "switch" and atoms[0][0] == "name"
        if knows:
            simplifier.later(forget, atoms[0][1], draft)
        simplifier.later_block(block)
        if knows:
            simplifier.later(learn, (atoms[0][1], wanted), draft)


def known_selector(simplifier, tag, atom):
    """What a selection over an atom selects by, or None if it is not known."""
    if tag == "choose":
        return atom[1] if atom[0] in ("int", "string") else None
    if tag == "unpack":
        return None
    number = known_number(simplifier.operations, atom)
    if number is None and atom[0] == "name":
        return simplifier.numbers.get(atom[1])
    return number


def put_block(simplifier, block, draft):
    """Puts a block in the place of a selection. What selects none is never done."""
    if block is None:
        draft.end = ("give", NOTHING)
    else:
        simplifier.later_parts(block, draft)


def learn(simplifier, thing, draft):
    """The constructor of a name is known in a branch."""
    name, number = thing
    simplifier.numbers[name] = number


def forget(simplifier, name, draft):
    """The constructor of a name is not known behind a branch."""
    del simplifier.numbers[name]


def end_selection(simplifier, thing, draft):
    """A selection behind its blocks."""
    tag, atom, selectors, has_default = thing
    default = simplifier.done.pop() if has_default else None
    first = len(simplifier.done) - len(selectors)
    blocks = simplifier.done[first:]
    del simplifier.done[first:]
    draft.end = (tag, atom, tuple(list(zip(selectors, blocks))), default)


STEPS = {"bind": do_bind, "sub": do_sub, "guard": do_guard, "fix": do_fix}
