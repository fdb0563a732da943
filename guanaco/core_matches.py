"""Expressions of the core language for the rules of a match.

The rules are tried one after the other. What is left to be tried behind a rule stands in its place where the rule has
one test, and is a function where it has several.
"""

from guanaco.environment import CONSTRUCTOR, seek_path
from guanaco.forms import UNIT


def variable(x):
    """A variable without letters."""
    return ("var", x, ())


def block(declarations, e):
    """An expression behind declarations."""
    if not declarations:
        return e
    if e[0] == "block":
        return ("block", (*declarations, *e[1]), e[2])
    return ("block", tuple(declarations), e)


def share_parts(site, drafts, x, lets, shared):
    """Binds the components of a tuple that some of the patterns look at, and notes their variables in `shared`."""
    rows = [draft[1] for draft in drafts if draft[0] == "ptuple"]
    if not rows:
        return
    for k in range(len(rows[0])):
        parts = [row[k] for row in rows]
        wanted = [part for part in parts if part[0] != "any"]
        if wanted:
            y = site.fresh(name_of(wanted[0]))
            shared[(x, k)] = y
            lets.append(("let", y, (), site.types[wanted[0][-1]], ("part", k, variable(x))))
            share_parts(site, parts, y, lets, shared)


def name_of(draft):
    """The name in a pattern that is one, or the empty one."""
    return draft[1] if draft[0] == "name" else ""


def plan(site, env, draft, x, shared, steps, found):
    """Adds what is to be done with a variable x to see whether it fits a pattern, and the names in this to `found`.

    A step is a declaration, or `(kind of selection, x, what it selects, y or None, number of constructors)`.
    """
    tag = draft[0]
    if tag == "name":
        found[draft[1]] = ("value", x)
    elif tag == "ptuple":
        for k, part in enumerate(draft[1]):
            if part[0] == "any":
                continue
            y = shared.get((x, k))
            if y is None:
                y = site.fresh(name_of(part))
                steps.append(("let", y, (), site.types[part[-1]], ("part", k, variable(x))))
            plan(site, env, part, y, shared, steps, found)
    elif tag in ("pint", "pstring"):
        steps.append(("choose", x, draft[1], None, None))
    elif tag != "any":
        inner = draft[-2]
        y = None if inner is None else site.fresh(name_of(inner))
        if tag == "pcon":
            steps.append(("switch", x, draft[2], y, draft[3]))
        else:
            steps.append(("unpack", x, seek_path(env, CONSTRUCTOR, draft[2]), y, None))
        if inner is not None:
            plan(site, env, inner, y, shared, steps, found)


def may_fail(step):
    """Whether a value may not pass a step."""
    return step[0] in ("choose", "unpack") or (step[0] == "switch" and step[4] > 1)


def tried(site, steps, e, rest, ty, is_small):
    """The expression e of the type ty behind the steps of its rule; `rest` is for values that do not pass them."""
    group = []
    if not is_small and len([step for step in steps if may_fail(step)]) > 1:
        f = site.fresh("")
        group = [("fix", ((f, (), ("fun", UNIT, ty), site.fresh(""), UNIT, rest),))]
        rest = ("apply", variable(f), ("tuple", ()))
    for step in reversed(steps):
        e = block([step], e) if step[0] == "let" else select(step, e, rest)
    return block(group, e)


def select(step, e, rest):
    """A selection that goes on with e behind a step, and with `rest` otherwise."""
    tag, x, chosen, y, many = step
    branch = (chosen, e) if tag == "choose" else (chosen, y, e)
    if tag == "switch" and many == 1:
        return ("switch", x, (branch,), None)
    branches = [branch]
    default = rest
    if rest[0] == tag and rest[1] == x:
        branches.extend([other for other in rest[2] if other[0] != chosen])
        default = rest[3]
    if tag == "switch":
        branches = sorted(branches, key=lambda other: other[0])
        if len(branches) == many:
            default = None
    return (tag, x, tuple(branches), default)
