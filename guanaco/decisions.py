"""Decision trees for patterns (points 93 and 94)."""

from guanaco.cover import constructors_of, data_table, head_argument, head_of_pattern
from guanaco.trees import children

MOST_TESTS = 12
TESTS = ("pcon", "pint", "pstring")


def decide(data, ty, patterns):
    """A decision tree for patterns that cover a type, or None if they have many tests."""
    if sum([count_tests(pattern) for pattern in patterns]) > MOST_TESTS:
        return None
    rows = []
    for k, pattern in enumerate(patterns):
        tests = []
        add_tests(tests, (), pattern, ty)
        rows.append((k, tests))
    return grow(data_table(data), rows)


def count_tests(pattern):
    """The number of constructors, integers and strings in a pattern."""
    own = 1 if pattern[0] in TESTS else 0
    return own + sum([count_tests(part) for part in children(pattern)])


def add_tests(tests, position, pattern, ty):
    """Adds the tests that a value at a position must pass first, as triples of position, pattern and type."""
    if pattern[0] == "ptuple":
        for k, part in enumerate(pattern[1]):
            add_tests(tests, position + (k,), part, ty[1][k])
    elif pattern[0] in TESTS:
        tests.append((position, pattern, ty))


def grow(table, rows):
    """The tree for rows: pairs of the index of a pattern and the tests that are left of it."""
    index, tests = rows[0]
    if not tests:
        return ("rule", index)
    # The parts of the first row's tests are there: all values that come here have passed the tests before.
    position, first, ty = tests[0]
    rest = [row for row in rows if test_at(row, position) is None]
    heads = {}
    for row in rows:
        pattern = test_at(row, position)
        if pattern is not None:
            heads[head_of_pattern(pattern)] = True
    if first[0] != "pcon":
        kind, order, whole = "choose", list(heads), False
    elif constructors_of(table, ty) is None:
        kind, order, whole = "unpack", list(heads), False
    else:
        constructors = constructors_of(table, ty)
        kind = "switch"
        order = [("pcon", name) for name, _ in constructors if ("pcon", name) in heads]
        whole = len(order) == len(constructors)
    branches = tuple([(head[1], grow(table, passed(table, rows, position, head))) for head in order])
    return (kind, position, branches, None if whole else grow(table, rest))


def test_at(row, position):
    """The pattern that a row has for a position, or None."""
    for place, pattern, _ in row[1]:
        if place == position:
            return pattern
    return None


def passed(table, rows, position, head):
    """The rows that a value with a head at a position can fit, with the tests that are left of them."""
    found = []
    for row in rows:
        pattern = test_at(row, position)
        if pattern is not None and head_of_pattern(pattern) != head:
            continue
        tests = []
        for place, test, ty in row[1]:
            if place != position:
                tests.append((place, test, ty))
            elif test[0] == "pcon" and test[2] is not None:
                add_tests(tests, position + ("arg",), test[2], head_argument(table, ty, head))
        found.append((row[0], tests))
    return found


def follow(tree, value):
    """The index of the rule that a value tree leads to."""
    while tree[0] != "rule":
        kind, position, branches, default = tree
        part = value_at(value, position)
        tree = default
        for name, branch in branches:
            if name == part[1]:
                tree = branch
    return tree[1]


def value_at(value, position):
    """The part of a value tree at a position."""
    for step in position:
        value = value[2] if step == "arg" else value[1][step]
    return value
