"""Optimization of units (points 106 and 107)."""

from guanaco.blocks import all_blocks, end_blocks, step_blocks
from guanaco.normal import measure, renumber
from guanaco.reductions import Survey, computed, is_pure, known_number, looks_inside
from guanaco.simplifier import simplified


def reducible(block):
    """Whether a closed block can be reduced."""
    survey = Survey(block)
    if survey.unused or survey.called:
        return True
    for part in all_blocks(block):
        if reducible_end(survey, part[1]):
            return True
        for step in part[0]:
            if reducible_step(survey, step):
                return True
    return switches_again(block)


def optimize(unit):
    """A unit that does the same and can not be reduced."""
    block, info = unit
    size, _ = measure(block)
    while True:
        block = simplified(block)
        smaller, _ = measure(block)
        # Each reduction makes the block smaller, so that there was none.
        if smaller == size:
            return renumber(block), info
        size = smaller


def reducible_step(survey, step):
    """Whether a step is one of the places 1, 3 and 6 to 8."""
    tag = step[0]
    if tag == "bind":
        _, x, operation = step
        if is_pure(operation) and survey.uses(x) == 0:
            return True
        return looks_inside(survey.operations, operation) is not None or computed(operation) is not None
    if tag == "sub":
        return step[2][1][0] in ("give", "throw")
    if tag == "guard":
        steps, end = step[2]
        return not steps and end[0] in ("give", "throw")
    return False


def reducible_end(survey, end):
    """Whether an end is one of the place 4."""
    if end[0] == "switch":
        return known_number(survey.operations, end[1]) is not None
    return end[0] == "choose" and end[1][0] in ("int", "string")


def switches_again(block):
    """Whether there is a `switch` over a name inside a branch of another one over the same name (place 5)."""
    inside = {}
    work = [("block", block)]
    while work:
        tag, *parts = work.pop()
        if tag == "come":
            inside[parts[0]] = True
        elif tag == "leave":
            inside.pop(parts[0], None)
        elif tag == "block":
            steps, end = parts[0]
            if end[0] == "switch" and end[1] in inside:
                return True
            note_end(work, end)
            work.extend(list(reversed(steps)))
        else:
            work.extend([("block", inner) for inner in step_blocks((tag, *parts))])
    return False


def note_end(work, end):
    """Notes the blocks of an end, where a branch of a `switch` knows what it is over."""
    if end[0] != "switch":
        work.extend([("block", inner) for inner in end_blocks(end)])
        return
    if end[3] is not None:
        work.append(("block", end[3]))
    work.append(("leave", end[1]))
    work.extend([("block", inner) for _, inner in end[2]])
    work.append(("come", end[1]))
