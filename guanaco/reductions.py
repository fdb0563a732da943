"""What the places of point 106 have in common: facts about names, pure operations, and what can be computed."""

from guanaco.blocks import all_blocks, blocks_of_call, count_names, end_atoms, operation_atoms
from guanaco.primitives import OPERATIONS, Raised

PURE = ("tuple", "part", "make", "arg", "pack", "fresh")
PURE_PRIMITIVES = ("equal", "unequal", "less", "atmost", "greater", "atleast", "same", "size", "digits")
COMPUTED = (
    "plus", "minus", "times", "negate", "quotient", "remainder", "equal", "unequal", "less", "atmost", "greater",
    "atleast",
)


class Survey:
    """How often names occur in the atoms of a block, what they are bound to, and what functions may be put in place.

    `called` has the functions of place 9 by their names: a parameter and a block. `unused` has the first names of the
    groups of place 2.
    """

    def __init__(self, block):
        self.occurrences = count_names(block)
        self.operations = {}
        self.called = {}
        self.unused = {}
        calls = {}
        groups = []
        for part in all_blocks(block):
            for step in part[0]:
                if step[0] == "bind":
                    self.operations[step[1]] = step[2]
                    if step[2][0] == "apply":
                        calls[step[2][1]] = True
                elif step[0] == "fix":
                    groups.append(step[1])
        for group in groups:
            self.look_at_group(group, calls)

    def uses(self, name):
        """How often a name occurs."""
        return self.occurrences.get(name, 0)

    def look_at_group(self, group, calls):
        """Notes a group that is not used, or a function that is called once and occurs nowhere else."""
        within = {}
        for _, _, block in group:
            for name, count in count_names(block).items():
                within[name] = within.get(name, 0) + count
        if all([self.uses(f) == within.get(f, 0) for f, _, _ in group]):
            self.unused[group[0][0]] = True
        f, parameter, block = group[0]
        if len(group) == 1 and self.uses(f) == 1 and f not in within and ("name", f) in calls and is_row(block):
            self.called[f] = (parameter, block)


def needed_names(block):
    """The dict of the names that a run may need, and of more keys. What is bound to others can be omitted."""
    needs = {None: []}
    work = [(block, None)]
    while work:
        part, owner = work.pop()
        for step in part[0]:
            if step[0] == "bind":
                key = step[1] if is_pure(step[2]) else owner
                needs.setdefault(key, []).extend(names_of(operation_atoms(step[2])))
            elif step[0] == "fix":
                # Functions of a group are needed together, and so is what their blocks do.
                group = ("fix", step[1][0][0])
                needs[group] = []
                for f, _, inner in step[1]:
                    needs[f] = [group]
                    work.append((inner, group))
        needs[owner].extend(names_of(end_atoms(part[1])))
        for inner in blocks_of_call(part):
            work.append((inner, owner))
    found = {None: True}
    waiting = [None]
    while waiting:
        wanted = needs.get(waiting.pop(), [])
        for key in wanted:
            if key not in found:
                found[key] = True
                waiting.append(key)
    return found


def names_of(atoms):
    """The list of the names among atoms."""
    return [atom[1] for atom in atoms if atom[0] == "name"]


def is_row(block):
    """Whether a block has only `bind` steps and ends with `give` or `throw`."""
    return block[1][0] in ("give", "throw") and all([step[0] == "bind" for step in block[0]])


def is_pure(operation):
    """Whether an operation is pure."""
    if operation[0] == "prim":
        return operation[1] in PURE_PRIMITIVES
    return operation[0] in PURE


def made_of(operations, atom):
    """The operation that a name is bound to, or None. `operations` has those of names."""
    return operations.get(atom[1]) if atom[0] == "name" else None


def looks_inside(operations, operation):
    """The operation that made what a `part` or an `arg` looks at, or None if it is not known."""
    if operation[0] not in ("part", "arg"):
        return None
    made = made_of(operations, operation[-1])
    if made is None:
        return None
    if operation[0] == "part":
        return made if made[0] == "tuple" else None
    return made if made[0] == "make" or (made[0] == "pack" and made[2] is not None) else None


def known_number(operations, atom):
    """The number of the constructor of a `switch` over an atom, or None if it is not known."""
    if atom[0] == "tag":
        return atom[1]
    made = made_of(operations, atom)
    return made[1] if made is not None and made[0] == "make" else None


def computed(operation):
    """The atom of a primitive of integers that are known, or None."""
    if operation[0] != "prim" or operation[1] not in COMPUTED:
        return None
    if not all([atom[0] == "int" for atom in operation[2]]):
        return None
    _, kind, compute = OPERATIONS[operation[1]]
    words = [atom[1] for atom in operation[2]]
    try:
        result = compute(*words)
    except Raised:
        return None
    return ("tag", 1 if result else 0) if kind == "bool" else ("int", result)
