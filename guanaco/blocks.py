"""The parts of blocks of the normal form (points 100 to 102), and of blocks of functions (point 108).

Blocks may be deep, so nothing here follows their depth.
"""

# The places of the atoms in an operation; "prim" and "tuple" have a tuple of them.
ATOM_PLACES = {
    "apply": (1, 2), "part": (2,), "make": (2,), "close": (2,), "fresh": (), "pack": (1, 2), "arg": (1,),
}
TUPLE_PLACES = {"prim": 2, "tuple": 1}


def operation_atoms(operation):
    """The list of the atoms of an operation."""
    tag = operation[0]
    if tag in TUPLE_PLACES:
        return list(operation[TUPLE_PLACES[tag]])
    return [operation[place] for place in ATOM_PLACES[tag] if operation[place] is not None]


def with_atoms(operation, atoms):
    """The operation with other atoms."""
    tag = operation[0]
    if tag in TUPLE_PLACES:
        return (*operation[:TUPLE_PLACES[tag]], tuple(atoms))
    found = list(operation)
    places = [place for place in ATOM_PLACES[tag] if operation[place] is not None]
    for place, atom in zip(places, atoms):
        found[place] = atom
    return tuple(found)


def end_atoms(end):
    """The list of the atoms of an end but for those in its blocks."""
    if end[0] == "unpack":
        return [end[1], *[z for z, _ in end[2]]]
    return [end[1]]


def atoms_within(block):
    """The list of the atoms of a block but for those in the blocks within it."""
    found = []
    for step in block[0]:
        if step[0] == "bind":
            found.extend(operation_atoms(step[2]))
    found.extend(end_atoms(block[1]))
    return found


def step_blocks(step):
    """The list of the blocks directly within a step."""
    tag = step[0]
    if tag == "sub":
        return [step[2]]
    if tag == "guard":
        return [step[2], step[4]]
    if tag == "fix":
        return [function[2] for function in step[1]]
    return []


def end_blocks(end):
    """The list of the blocks directly within an end."""
    if end[0] in ("give", "throw"):
        return []
    found = [block for _, block in end[2]]
    if end[3] is not None:
        found.append(end[3])
    return found


def blocks_within(block):
    """The list of the blocks directly within a block, from left to right."""
    found = []
    for step in block[0]:
        found.extend(step_blocks(step))
    found.extend(end_blocks(block[1]))
    return found


def blocks_of_call(block):
    """As `blocks_within`, without the blocks of functions."""
    found = []
    for step in block[0]:
        if step[0] != "fix":
            found.extend(step_blocks(step))
    found.extend(end_blocks(block[1]))
    return found


def all_blocks(block):
    """The list of a block and all blocks within it, a block before those within it."""
    found = []
    work = [block]
    while work:
        found.append(work.pop())
        work.extend(list(reversed(blocks_within(found[-1]))))
    return found


def fold_block(block, inner, combine):
    """The result of `combine(block, results of the blocks within it)`; `inner(block)` tells which these are."""
    work = [(block, False)]
    done = []
    while work:
        item, ready = work.pop()
        parts = inner(item)
        if ready or not parts:
            first = len(done) - len(parts)
            results = done[first:]
            del done[first:]
            done.append(combine(item, results))
        else:
            work.append((item, True))
            for part in reversed(parts):
                work.append((part, False))
    return done[0]


def with_end(end, atoms, blocks):
    """The end with other atoms and other blocks."""
    tag = end[0]
    if tag in ("give", "throw"):
        return (tag, atoms[0])
    selectors = atoms[1:] if tag == "unpack" else [selector for selector, _ in end[2]]
    default = None if end[3] is None else blocks[-1]
    return (tag, atoms[0], tuple(list(zip(selectors, blocks))), default)


def names_bound(block):
    """The list of the names that are bound in a block and all blocks within it, in the order of the text."""
    found = []
    work = [("block", block)]
    while work:
        tag, *parts = work.pop()
        if tag == "block":
            steps, end = parts[0]
            work.extend([("block", inner) for inner in reversed(end_blocks(end))])
            work.extend(list(reversed(steps)))
            continue
        if tag == "fix":
            found.extend([f for f, _, _ in parts[0]])
            for _, p, inner in reversed(parts[0]):
                work.extend([("block", inner), ("name", p)])
            continue
        found.append(parts[0])
        if tag == "sub":
            work.append(("block", parts[1]))
        elif tag == "guard":
            work.extend([("block", parts[3]), ("name", parts[2]), ("block", parts[1])])
    return found


def count_names(block):
    """The dict from the names in the atoms of a block, and of all blocks within it, to how often they occur."""
    counts = {}
    for part in all_blocks(block):
        for atom in atoms_within(part):
            if atom[0] == "name":
                counts[atom[1]] = counts.get(atom[1], 0) + 1
    return counts
