"""The normal form: normalization, closed blocks, sizes and numbers (points 103 and 104)."""

from guanaco.blocks import blocks_within, end_atoms, end_blocks, fold_block, names_bound
from guanaco.blocks import operation_atoms, step_blocks, with_atoms, with_end
from guanaco.errors import GuanacoError
from guanaco.normalization import translated, translated_unit


class Unclosed(GuanacoError):
    """A name in an atom is not bound there."""


def normalize(core):
    """The unit of the normal form of a core program."""
    data, _, shown = core
    block, exceptions = translated(core)
    return renumber(block), (shown, data, exceptions)


def normalize_unit(core, imports):
    """The unit of the normal form of a unit, whose imports are as in `translated_unit`."""
    data, _, shown = core
    block, exceptions = translated_unit(core, imports)
    return renumber(block), (shown, data, exceptions)


def measure(block):
    """The pair of the size and the depth of a block."""
    def combine(part, inner):
        size = len(part[0]) + 1 + sum([count for count, _ in inner])
        return size, 1 + max([depth for _, depth in inner], default=0)
    return fold_block(block, blocks_within, combine)


def renumber(block):
    """The closed block with its names numbered from 0 in the order in which they are bound in its text."""
    numbers = {}
    for name in names_bound(block):
        numbers[name] = len(numbers)
    return renamed(block, numbers)


def renamed(block, numbers):
    """The block with other names."""
    def new_atom(atom):
        """The atom with another name."""
        return ("name", numbers[atom[1]]) if atom[0] == "name" else atom

    def combine(part, inner):
        steps = []
        place = 0
        for step in part[0]:
            count = len(step_blocks(step))
            steps.append(renamed_step(step, numbers, new_atom, inner[place:place + count]))
            place += count
        atoms = [new_atom(atom) for atom in end_atoms(part[1])]
        return tuple(steps), with_end(part[1], atoms, inner[place:])
    return fold_block(block, blocks_within, combine)


def renamed_step(step, numbers, new_atom, blocks):
    """The step with other names and these blocks."""
    tag = step[0]
    if tag == "bind":
        atoms = [new_atom(atom) for atom in operation_atoms(step[2])]
        return ("bind", numbers[step[1]], with_atoms(step[2], atoms))
    if tag == "sub":
        return ("sub", numbers[step[1]], blocks[0])
    if tag == "guard":
        return ("guard", numbers[step[1]], blocks[0], numbers[step[3]], blocks[1])
    return ("fix", tuple([(numbers[f], numbers[p], block) for (f, p, _), block in zip(step[1], blocks)]))


def is_closed(block):
    """Whether every name in an atom is bound where it stands, and no name is bound twice."""
    bound = names_bound(block)
    seen = {name: True for name in bound}
    if len(seen) < len(bound):
        return False
    scope = {}
    work = [(visit_block, block)]
    try:
        while work:
            action, thing = work.pop()
            action(work, scope, thing)
    except Unclosed:
        return False
    return True


def check_atoms(scope, atoms):
    """Raises Unclosed unless all names in atoms are in scope."""
    for atom in atoms:
        if atom[0] == "name" and atom[1] not in scope:
            raise Unclosed("a name is not bound")


def come(work, scope, names):
    """Names come into scope."""
    for name in names:
        scope[name] = True


def leave(work, scope, names):
    """Names are no longer in scope."""
    for name in names:
        del scope[name]


def visit_block(work, scope, block):
    """A block: its steps in order, and then its end."""
    steps, end = block
    declared = []
    for step in steps:
        declared.extend([f for f, _, _ in step[1]] if step[0] == "fix" else [step[1]])
    work.append((leave, declared))
    work.append((visit_end, end))
    for step in reversed(steps):
        work.append((visit_step, step))


def visit_end(work, scope, end):
    """An end."""
    check_atoms(scope, end_atoms(end))
    for block in end_blocks(end):
        work.append((visit_block, block))


def visit_step(work, scope, step):
    """A step, whose names are in scope behind it."""
    tag = step[0]
    if tag == "fix":
        come(work, scope, [f for f, _, _ in step[1]])
        for _, p, block in step[1]:
            work.extend([(leave, [p]), (visit_block, block), (come, [p])])
        return
    work.append((come, [step[1]]))
    if tag == "bind":
        check_atoms(scope, operation_atoms(step[2]))
    elif tag == "sub":
        work.append((visit_block, step[2]))
    else:
        _, _, first, h, second = step
        work.extend([(leave, [h]), (visit_block, second), (come, [h]), (visit_block, first)])
