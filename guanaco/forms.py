"""The types of the checker as trees (point 20). They may be deep, so nothing here follows their depth."""

from guanaco.errors import Mismatch

LARGEST_REPORTED = 300
LARGEST_TYPE = 3000

INT = ("con", "int", ())
STRING = ("con", "string", ())
BOOL = ("con", "bool", ())
EXN = ("con", "exn", ())
UNIT = ("tuple", ())


def parts_of(ty):
    """The tuple of the types directly within a type."""
    if ty[0] == "fun":
        return (ty[1], ty[2])
    if ty[0] == "tuple":
        return ty[1]
    if ty[0] == "con":
        return ty[2]
    return ()


def head_of(ty):
    """The pair of the kind and the name of a type that is no variable."""
    return (ty[0], ty[1] if ty[0] == "con" else "")


def build(head, parts):
    """The type with a head and parts."""
    kind, name = head
    if kind == "fun":
        return ("fun", parts[0], parts[1])
    if kind == "tuple":
        return ("tuple", tuple(parts))
    return ("con", name, tuple(parts))


def fold(ty, combine):
    """The result of `combine(type, results of its parts)` for a type, from the inside to the outside."""
    work = [(ty, False)]
    done = []
    while work:
        item, ready = work.pop()
        parts = parts_of(item)
        if ready or not parts:
            first = len(done) - len(parts)
            result = combine(item, done[first:])
            del done[first:]
            done.append(result)
        else:
            work.append((item, True))
            for part in reversed(parts):
                work.append((part, False))
    return done[0]


def exceeds(ty, most):
    """Whether a type has more than so many nodes. It looks at no more of them than it needs."""
    count = 0
    work = [ty]
    while work:
        count += 1
        if count > most:
            return True
        for part in parts_of(work.pop()):
            work.append(part)
    return False


def bounded(ty):
    """The type itself, or Mismatch for one that is too large to go on with."""
    if exceeds(ty, LARGEST_TYPE):
        raise Mismatch(-1)
    return ty


def equal_types(first, second):
    """Whether two types are equal."""
    work = [(first, second)]
    while work:
        t, u = work.pop()
        if t[0] != u[0]:
            return False
        if t[0] == "var":
            if t[1] != u[1]:
                return False
            continue
        parts = list(zip(parts_of(t), parts_of(u)))
        if head_of(t) != head_of(u) or len(parts_of(t)) != len(parts_of(u)):
            return False
        work.extend(parts)
    return True
