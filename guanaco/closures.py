"""Closure conversion, and runs of functions (points 108 to 110)."""

from guanaco.block_machine import run_blocks
from guanaco.blocks import all_blocks, atoms_within, blocks_of_call, end_atoms, end_blocks, fold_block
from guanaco.blocks import names_bound, step_blocks, with_end

EMPTY = ("tag", 0)


class Group:
    """The functions of a `fix`, the number of the first one, and the names that they capture."""

    def __init__(self, functions, first):
        self.functions = functions
        self.first = first
        self.captured = []


class Function:
    """A function with its group (None for function 0), and the names that occur free in its block."""

    def __init__(self, group, parameter, block):
        self.group = group
        self.parameter = parameter
        self.block = block
        self.free = {}


class Plan:
    """All functions of a unit in their order, their groups by the name of the first function, and new names."""

    def __init__(self, block):
        self.functions = [Function(None, None, block)]
        self.groups = {}
        self.above = 1 + max(names_bound(block), default=-1)

    def environment(self, number):
        """The name of the environment of a function."""
        return self.above + number

    def tuple_name(self, group):
        """The name of the tuple of what a group captures."""
        return self.above + len(self.functions) + group.first

    def first_parameter(self):
        """The name of the parameter of function 0."""
        return self.above + 2 * len(self.functions)


def convert(unit):
    """The tuple of functions for a unit."""
    block, _ = unit
    plan = Plan(block)
    number_functions(plan, block)
    find_free_names(plan)
    first = plan.functions[0]
    first.parameter = plan.first_parameter()
    found = []
    for number, function in enumerate(plan.functions):
        steps, end = converted(plan, function.block)
        beginning = beginning_of(plan, number, function)
        found.append((plan.environment(number), function.parameter, ((*beginning, *steps), end)))
    return tuple(found)


def run_functions(functions, info, fuel):
    """The run of functions."""
    return run_blocks(functions, info, fuel)


def number_functions(plan, block):
    """Finds all functions and groups, in the order of a walk through the block."""
    work = [("block", block)]
    while work:
        tag, *parts = work.pop()
        if tag == "block":
            steps, end = parts[0]
            work.extend([("block", inner) for inner in reversed(end_blocks(end))])
            work.extend(list(reversed(steps)))
        elif tag != "bind":
            if tag == "fix":
                add_group(plan, parts[0])
            work.extend([("block", inner) for inner in reversed(step_blocks((tag, *parts)))])


def add_group(plan, functions):
    """Numbers the functions of a `fix`."""
    group = Group(functions, len(plan.functions))
    plan.groups[functions[0][0]] = group
    for _, parameter, block in functions:
        plan.functions.append(Function(group, parameter, block))


def find_free_names(plan):
    """Finds the names that occur free in functions, and what groups capture."""
    for function in plan.functions:
        bound = {name: True for name in names_bound(function.block)}
        for part in all_blocks(function.block):
            for atom in atoms_within(part):
                if atom[0] == "name" and atom[1] not in bound:
                    function.free[atom[1]] = True
    for group in plan.groups.values():
        own = {}
        for f, p, _ in group.functions:
            own[f] = True
            own[p] = True
        captured = {}
        for number in range(group.first, group.first + len(group.functions)):
            for name in plan.functions[number].free:
                if name not in own:
                    captured[name] = True
        group.captured = sorted(captured)


def beginning_of(plan, number, function):
    """The list of the steps that bind what a function's block has from its environment."""
    steps = []
    group = function.group
    if group is None:
        return steps
    environment = ("name", plan.environment(number))
    for k, name in enumerate(group.captured):
        if name in function.free:
            steps.append(("bind", name, ("part", k, environment)))
    for k, (f, _, _) in enumerate(group.functions):
        if f in function.free:
            steps.append(("bind", f, ("close", group.first + k, environment)))
    return steps


def converted(plan, block):
    """The block with closures in the place of functions."""
    def combine(part, inner):
        steps = []
        blocks = list(inner)
        for step in part[0]:
            if step[0] == "fix":
                steps.extend(closing_steps(plan, plan.groups[step[1][0][0]]))
            elif step[0] == "sub":
                steps.append(("sub", step[1], blocks.pop(0)))
            elif step[0] == "guard":
                first = blocks.pop(0)
                steps.append(("guard", step[1], first, step[3], blocks.pop(0)))
            else:
                steps.append(step)
        return tuple(steps), with_end(part[1], end_atoms(part[1]), blocks)
    return fold_block(block, blocks_of_call, combine)


def closing_steps(plan, group):
    """The list of the steps that make the closures of a group."""
    steps = []
    environment = EMPTY
    if group.captured:
        environment = ("name", plan.tuple_name(group))
        captured = tuple([("name", name) for name in group.captured])
        steps.append(("bind", environment[1], ("tuple", captured)))
    for k, (f, _, _) in enumerate(group.functions):
        steps.append(("bind", f, ("close", group.first + k, environment)))
    return steps
