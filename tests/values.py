"""Values of types, and whether they fit patterns, for the tests of matches."""

BOOL = ("con", "bool", ())
INT = ("con", "int", ())
STRING = ("con", "string", ())
EXN = ("con", "exn", ())


def listed(ty):
    return ("con", "list", (ty,))


def pair(*types):
    return ("tuple", types)


DATA = (
    ("bool", (), (("False", None), ("True", None))),
    ("list", ("a",), (("Nil", None), ("Cons", pair(("var", "a"), listed(("var", "a")))))),
    ("color.1", (), (("Red", None), ("Green", None), ("Blue", None))),
    ("tree.2", ("b", "c"), (("Leaf", ("var", "c")), ("Node", pair(
        ("con", "tree.2", (("var", "b"), ("var", "c"))), ("var", "b"))), ("Stop", None))),
    ("hidden.3", (), ()),
    ("exn", (), (("E", None), ("F", BOOL), ("G", INT))),
)
TABLE = {name: (letters, constructors) for name, letters, constructors in DATA}
TYPES = (
    BOOL, INT, STRING, EXN, ("con", "color.1", ()), ("con", "hidden.3", ()), ("var", "a"), ("fun", INT, INT),
    listed(BOOL), listed(("con", "color.1", ())), pair(BOOL, BOOL), pair(BOOL, listed(BOOL), INT),
    ("con", "tree.2", (BOOL, INT)), ("con", "tree.2", (INT, listed(BOOL))), pair(EXN, BOOL), ("tuple", ()),
    pair(("con", "color.1", ()), ("con", "hidden.3", ())), listed(pair(BOOL, BOOL)),
)


def replace(ty, meaning):
    if ty[0] == "var":
        return meaning.get(ty[1], ty)
    if ty[0] == "fun":
        return ("fun", replace(ty[1], meaning), replace(ty[2], meaning))
    if ty[0] == "tuple":
        return ("tuple", tuple(replace(part, meaning) for part in ty[1]))
    return ("con", ty[1], tuple(replace(part, meaning) for part in ty[2]))


def constructors(ty):
    letters, pairs = TABLE[ty[1]]
    meaning = dict(zip(letters, ty[2]))
    return [(name, None if inner is None else replace(inner, meaning)) for name, inner in pairs]


def products(rows):
    found = [()]
    for row in rows:
        found = [done + (value,) for done in found for value in row]
    return found


def values(ty, depth):
    """Values of a type; those of types without end include ones that no pattern of the tests has."""
    if ty == INT:
        return [("int", n) for n in (0, 1, 2, 77)]
    if ty == STRING:
        return [("string", s) for s in ("", "a", "other")]
    if ty[0] in ("var", "fun") or ty[1] == "hidden.3":
        return [("fn",)]
    if ty[0] == "tuple":
        return [("tuple", parts) for parts in products([values(part, depth) for part in ty[1]])]
    kind = "exn" if ty == EXN else "con"
    found = [("exn", "Other", None)] if ty == EXN else []
    for name, inner in constructors(ty):
        if inner is None:
            found.append((kind, name, None))
        elif depth > 1:
            found.extend((kind, name, value) for value in values(inner, depth - 1))
    return found


def fits(value, pattern):
    tag = pattern[0]
    if tag in ("any", "name"):
        return True
    if tag in ("pint", "pstring"):
        return value[1] == pattern[1]
    if tag == "ptuple":
        return all(fits(part, inner) for part, inner in zip(value[1], pattern[1]))
    if value[1] != pattern[1][-1]:
        return False
    return pattern[2] is None or fits(value[2], pattern[2])


def first_fit(value, patterns):
    for k, pattern in enumerate(patterns):
        if fits(value, pattern):
            return k
    return None


def random_pattern(random, ty, depth):
    if depth <= 0 or random.random() < 0.25:
        return random.choice((("any",), ("name", "x")))
    if ty == INT:
        return ("pint", random.choice((0, 1, 2)))
    if ty == STRING:
        return ("pstring", random.choice(("", "a")))
    if ty[0] in ("var", "fun") or ty[1] == "hidden.3":
        return ("any",)
    if ty[0] == "tuple":
        return ("ptuple", tuple(random_pattern(random, part, depth - 1) for part in ty[1]))
    name, inner = random.choice(constructors(ty))
    path = random.choice(((name,), ("S", name)))
    return ("pcon", path, None if inner is None else random_pattern(random, inner, depth - 1))


def samples(ty, pattern, depth):
    """Values that fit a pattern of `missing`: at an `any` of a type without end one that no pattern has."""
    if pattern[0] == "any":
        if ty == INT:
            return [("int", 77)]
        if ty == STRING:
            return [("string", "other")]
        if ty == EXN:
            return [("exn", "Other", None)]
        if ty[0] == "tuple":
            return [("tuple", parts) for parts in products([samples(part, pattern, depth) for part in ty[1]])]
        if ty[0] == "con" and TABLE[ty[1]][1]:
            found = []
            for name, inner in constructors(ty):
                if inner is None:
                    found.append(("con", name, None))
                elif depth > 1:
                    found.extend(("con", name, value) for value in samples(inner, pattern, depth - 1))
            return found
        return [("fn",)]
    if pattern[0] == "ptuple":
        parts = [samples(part, inner, depth) for part, inner in zip(ty[1], pattern[1])]
        return [("tuple", done) for done in products(parts)]
    name = pattern[1][-1]
    inner = dict(constructors(ty))[name]
    if inner is None:
        return [("con", name, None)]
    return [("con", name, value) for value in samples(inner, pattern[2], depth - 1)]
