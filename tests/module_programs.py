"""Random programs of structures, seals and functors that have a type, for the tests. The seeds are fixed.

Types are `("int",)`, `("string",)`, `("list", ty)`, `("pair", ty, ty)`, `("fun", ty, ty)` and `("named", path)`; a path
that begins with "self" is one of the structure at hand. A structure has entries `("type", name, meaning)`,
`("val", name, ty)` and `("exn", name, ty or None)`. A meaning is `("alias", ty)`, `("data", constructors)` or
`("abstract",)`.
"""


class Excluded(Exception):
    """A type can not be written with what a signature has."""


class Scope:
    """What can be used: the meanings of the paths of types, and the paths of values and exceptions with their types."""

    def __init__(self):
        self.types = {}
        self.lows = []
        self.exceptions = []

    def inner(self):
        found = Scope()
        found.types = dict(self.types)
        found.lows = list(self.lows)
        found.exceptions = list(self.exceptions)
        return found

    def mount(self, entries, prefix):
        """Puts a structure in scope."""
        def move(path):
            return ("named", prefix + path[1:] if path[0] == "self" else path)
        for kind, name, what in moved(entries, move):
            path = prefix + (name,)
            if kind == "type":
                self.types[path] = what
            elif kind == "val":
                self.lows.append((path, what))
            else:
                self.exceptions.append((path, what))


def replaced(ty, change):
    """A type, or None, in which named types are changed."""
    if ty is None:
        return None
    if ty[0] == "named":
        return change(ty[1])
    return (ty[0],) + tuple(replaced(part, change) for part in ty[1:])


def moved(entries, change):
    """The entries of a structure in which named types are changed."""
    found = []
    for kind, name, what in entries:
        if kind != "type":
            what = replaced(what, change)
        elif what[0] == "alias":
            what = ("alias", replaced(what[1], change))
        elif what[0] == "data":
            what = ("data", [(high, replaced(ty, change)) for high, ty in what[1]])
        found.append((kind, name, what))
    return found


def written(ty):
    """The text of a type."""
    if ty[0] in ("int", "string"):
        return ty[0]
    if ty[0] == "list":
        return f"({written(ty[1])}) list"
    if ty[0] == "named":
        return ".".join(ty[1][1:] if ty[1][0] == "self" else ty[1])
    return f"({written(ty[1])} {'*' if ty[0] == 'pair' else '->'} {written(ty[2])})"


def constructors_text(constructors):
    return " | ".join(high if ty is None else f"{high} of {written(ty)}" for high, ty in constructors)


class ModuleWriter:
    """Writes the texts of programs."""

    def __init__(self, random):
        self.random = random
        self.count = 0

    def fresh(self, base):
        self.count += 1
        return f"{base}{self.count}"

    def likely(self, chance):
        return self.random.random() < chance

    def ty(self, scope, depth=2):
        if scope.types and self.likely(0.45):
            return ("named", self.random.choice(list(scope.types)))
        kind = self.random.choice(("int", "string", "list", "pair", "pair", "fun")) if depth > 0 else "int"
        if kind in ("int", "string"):
            return (kind,)
        if kind == "list":
            return (kind, self.ty(scope, depth - 1))
        return (kind, self.ty(scope, depth - 1), self.ty(scope, depth - 1))

    def expression(self, ty, scope, depth=3):
        values = [path for path, other in scope.lows if other == ty]
        functions = [(path, other) for path, other in scope.lows if other[0] == "fun" and other[2] == ty]
        if values and self.likely(0.5):
            return ".".join(self.random.choice(values))
        if functions and depth > 0 and self.likely(0.4):
            path, other = self.random.choice(functions)
            return f"({'.'.join(path)} {self.expression(other[1], scope, depth - 1)})"
        if scope.exceptions and depth > 0 and self.likely(0.12):
            return self.handled(ty, scope, depth)
        if depth > 0 and self.likely(0.08):
            return f'(print "{self.random.choice("abc")}"; {self.expression(ty, scope, depth - 1)})'
        return self.made(ty, scope, depth)

    def handled(self, ty, scope, depth):
        path, argument = self.random.choice(scope.exceptions)
        name = ".".join(path)
        first = self.expression(ty, scope, depth - 1)
        if self.likely(0.6):
            first = f"(raise {name})" if argument is None else f"(raise {name} {self.expression(argument, scope, depth - 1)})"
            path, argument = self.random.choice(scope.exceptions)
        pattern = ".".join(path) + ("" if argument is None else " _")
        return f"({first} handle {pattern} => {self.expression(ty, scope, depth - 2)})"

    def made(self, ty, scope, depth):
        below = depth - 1
        if ty[0] == "int":
            if depth <= 0 or self.likely(0.6):
                return str(self.random.randint(0, 9))
            return f"({self.expression(ty, scope, below)} + {self.expression(ty, scope, below)})"
        if ty[0] == "string":
            return f'"{self.random.choice("xyz")}"'
        if ty[0] == "list":
            parts = [self.expression(ty[1], scope, below) for _ in range(self.random.randint(0, 2))]
            return "[" + ", ".join(parts) + "]"
        if ty[0] == "pair":
            return f"({self.expression(ty[1], scope, below)}, {self.expression(ty[2], scope, below)})"
        if ty[0] == "fun":
            x = self.fresh("x")
            inner = scope.inner()
            inner.lows.append(((x,), ty[1]))
            return f"(fn {x} => {self.expression(ty[2], inner, below)})"
        return self.named(ty[1], scope, depth)

    def named(self, path, scope, depth):
        meaning = scope.types[path]
        if meaning[0] == "alias":
            return self.expression(meaning[1], scope, depth)
        if meaning[0] == "abstract":
            return "(raise Div)"
        choices = [row for row in meaning[1] if row[1] is None] if depth <= 0 else meaning[1]
        high, argument = self.random.choice(choices)
        name = ".".join(path[:-1] + (high,))
        return name if argument is None else f"({name} {self.expression(argument, scope, depth - 1)})"

    def structure(self, outer):
        """The text of a struct and its entries."""
        scope = outer.inner()
        entries = []
        texts = []
        for _ in range(self.random.randint(1, 6)):
            kind = self.random.choice(("alias", "data", "exn", "val", "val", "val"))
            name = self.fresh({"alias": "t", "data": "d", "exn": "E", "val": "v"}[kind])
            ty = self.ty(scope)
            if kind == "alias":
                texts.append(f"type {name} = {written(ty)}")
                entries.append(("type", name, ("alias", ty)))
            elif kind == "data":
                scope.types[(name,)] = ("data", ())
                pairs = [(self.fresh("K"), None), (self.fresh("K"), self.ty(scope)), (self.fresh("K"), ty)]
                texts.append(f"datatype {name} = {constructors_text(pairs)}")
                entries.append(("type", name, ("data", pairs)))
            elif kind == "exn":
                argument = ty if self.likely(0.6) else None
                texts.append(f"exception {name}" + ("" if argument is None else f" of {written(ty)}"))
                entries.append((kind, name, argument))
            else:
                texts.append(f"val {name} = ({self.expression(ty, scope)} : {written(ty)})")
                entries.append((kind, name, ty))
            scope.mount(entries[-1:], ())
        own = {(name,): True for kind, name, _ in entries if kind == "type"}
        entries = moved(entries, lambda path: ("named", ("self",) + path if path in own else path))
        return "struct " + " ".join(texts) + " end", entries

    def signature(self, entries):
        """The text of a signature of some of the entries, and these as it describes them."""
        kept = {}
        left = {}
        found = []

        def change(path):
            if path[0] != "self" or path in kept:
                return ("named", path)
            if left[path][0] != "alias":
                raise Excluded
            return replaced(left[path][1], change)
        for kind, name, what in entries:
            path = ("self", name)
            try:
                if self.likely(0.25):
                    raise Excluded
                if kind == "type" and what[0] == "data":
                    # The data type stands in its own constructors.
                    kept[path] = True
                changed = moved([(kind, name, what)], change)[0]
                if kind == "type" and self.likely(0.5):
                    changed = (kind, name, ("abstract",))
                kept[path] = True
                found.append(changed)
            except Excluded:
                kept.pop(path, None)
                left[path] = what
        return "sig " + " ".join(self.specification(entry) for entry in found) + " end", found

    def specification(self, entry):
        kind, name, what = entry
        if kind == "val":
            return f"val {name} : {written(what)}"
        if kind == "exn":
            return f"exception {name}" + ("" if what is None else f" of {written(what)}")
        if what[0] == "abstract":
            return f"type {name}"
        return f"type {name} = {written(what[1])}" if what[0] == "alias" else f"datatype {name} = {constructors_text(what[1])}"

    def sealed(self, scope, chance):
        """The text of a struct, perhaps with that of a seal ahead of it, and its entries."""
        text, entries = self.structure(scope)
        seal = ""
        if self.likely(chance):
            signature, entries = self.signature(entries)
            seal = f" {self.random.choice((':', ':>', ':>'))} {signature}"
        return seal, text, entries

    def program(self):
        """The text of a program."""
        scope = Scope()
        texts = []
        structures = []
        functors = []
        for _ in range(self.random.randint(2, 8)):
            if not structures or self.likely(0.3):
                name = self.fresh("M")
                seal, text, entries = self.sealed(scope, 0.7)
                texts.append(f"structure {name}{seal} = {text}")
            elif not functors or self.likely(0.4):
                name = self.fresh("F")
                argument, entries = self.random.choice(structures)
                signature, parameter = self.signature(entries)
                inner = scope.inner()
                inner.mount(parameter, ("X",))
                seal, text, entries = self.sealed(inner, 0.5)
                texts.append(f"functor {name} (X : {signature}){seal} = {text}")
                functors.append((name, argument, entries))
                continue
            else:
                functor, argument, entries = self.random.choice(functors)
                name = self.fresh("A")
                texts.append(f"structure {name} = {functor} ({argument})")
                entries = moved(entries, lambda path: ("named", (argument,) + path[1:] if path[0] == "X" else path))
            structures.append((name, entries))
            scope.mount(entries, (name,))
        for _ in range(3):
            name, ty = self.fresh("w"), self.ty(scope)
            texts.append(f"val {name} = ({self.expression(ty, scope)} : {written(ty)})")
            scope.lows.append(((name,), ty))
        return " ".join(texts)
