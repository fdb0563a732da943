"""Random units of the normal form that are never stuck, for the tests. The seeds are fixed."""

from cores import EXN, INT, STRING, T

TYPES = {"int": INT, "text": STRING, "opt": T, "exn": EXN, "pair": ("tuple", (INT, INT)), "fun": ("fun", INT, INT)}
EXCEPTIONS = (("E", None), ("F", INT))


class Maker:
    """Makes blocks. Names have kinds: those of `TYPES`, and "plain" and "full" for exceptions without and with."""

    def __init__(self, random):
        self.random = random
        self.count = random.randint(0, 9)

    def name(self):
        self.count += self.random.randint(1, 3)
        return self.count

    def one(self, choices):
        return self.random.choice(choices)

    def unit(self):
        kinds = [self.one(sorted(TYPES)) for _ in range(self.random.randint(1, 3))]
        plain, full = self.name(), self.name()
        steps = [("bind", plain, ("fresh", 0)), ("bind", full, ("fresh", 1))]
        env = [(plain, "plain"), (full, "full")]
        atoms = []
        for kind in kinds:
            more, env, atom = self.steps(kind, 3, env)
            steps += more
            atoms.append(atom)
        last = self.name()
        steps.append(("bind", last, ("tuple", tuple(atoms))))
        shown = tuple((f"v{k}", ((), TYPES[kind]), f"v.{k}", (), TYPES[kind]) for k, kind in enumerate(kinds))
        data = (("bool", (), (("False", None), ("True", None))),
                ("list", ("a",), (("Nil", None), ("Cons", ("tuple", (("var", "a"), ("con", "list", (("var", "a"),))))))),
                ("t.1", (), (("N", None), ("I", INT))))
        return (tuple(steps), ("give", ("name", last))), (shown, data, EXCEPTIONS)

    def steps(self, kind, depth, env):
        """Steps, the names behind them, and an atom of a kind."""
        steps = []
        for _ in range(self.random.randint(0, 3)):
            wanted = self.one(sorted(TYPES))
            more, found = self.step(wanted, depth, env)
            steps += more
            env = env + [(found, wanted)]
        names = [name for name, other in env if other == kind]
        if kind == "int" and self.random.random() < 0.3:
            return steps, env, ("int", self.one((0, 1, 2, 5, -3, 2000000000)))
        if kind == "text" and self.random.random() < 0.3:
            return steps, env, ("string", self.one(("", "a", "bc")))
        if kind == "opt" and self.random.random() < 0.3:
            return steps, env, ("tag", 0)
        if names and self.random.random() < 0.8:
            return steps, env, ("name", self.one(names))
        more, found = self.step(kind, depth, env)
        return steps + more, env + [(found, kind)], ("name", found)

    def step(self, kind, depth, env):
        """Steps, the last of which binds a name of a kind, and this name."""
        x = self.name()
        chance = self.random.random()
        if depth > 0 and chance < 0.2:
            return [("sub", x, self.block(kind, depth - 1, env))], x
        if depth > 0 and chance < 0.35:
            h = self.name()
            first = self.block(kind, depth - 1, env)
            return [("guard", x, first, h, self.block(kind, depth - 1, env + [(h, "exn")]))], x
        steps, operation = self.operation(kind, depth, env, x)
        return steps + [operation], x

    def operation(self, kind, depth, env, x):
        below = depth - 1
        if kind == "fun":
            p = self.name()
            group = [(x, p, self.block("int", below, env + [(p, "int")]))]
            if self.random.random() < 0.2:
                f, q = self.name(), self.name()
                group.append((f, q, self.block("int", below, env + [(q, "int"), (x, "fun")])))
            return [], ("fix", tuple(group))
        if kind == "pair":
            steps, env, first = self.steps("int", below, env) if depth > 0 else ([], env, ("int", 1))
            return steps, ("bind", x, ("tuple", (first, ("int", 2))))
        if kind == "opt":
            return [], ("bind", x, ("make", 1, self.number(env)))
        if kind == "exn":
            names = [row for row in env if row[1] in ("plain", "full")]
            if not names or self.random.random() < 0.4:
                return [], ("bind", x, ("pack", ("int", self.random.randint(0, 3)), None))
            name, shape = self.one(names)
            return [], ("bind", x, ("pack", ("name", name), None if shape == "plain" else self.number(env)))
        if kind == "text":
            if self.random.random() < 0.5:
                return [], ("bind", x, ("prim", "digits", (self.number(env),)))
            return [], ("bind", x, ("prim", "concat", (self.text(env), self.text(env))))
        return self.number_operation(env, x)

    def number_operation(self, env, x):
        choice = self.random.random()
        pairs = [name for name, kind in env if kind == "pair"]
        functions = [name for name, kind in env if kind == "fun"]
        if pairs and choice < 0.25:
            return [], ("bind", x, ("part", self.random.randint(0, 1), ("name", self.one(pairs))))
        if functions and choice < 0.5:
            return [], ("bind", x, ("apply", ("name", self.one(functions)), self.number(env)))
        if choice < 0.6:
            spoken = self.name()
            return [("bind", spoken, ("prim", "print", (self.text(env),)))], ("bind", x, ("prim", "size", (self.text(env),)))
        if choice < 0.65:
            return [], ("bind", x, ("prim", "negate", (self.number(env),)))
        if choice < 0.7:
            held = self.name()
            return [("bind", held, ("prim", "ref", (self.number(env),)))], ("bind", x, ("prim", "get", (("name", held),)))
        name = self.one(("plus", "minus", "times", "quotient", "remainder"))
        return [], ("bind", x, ("prim", name, (self.number(env), self.number(env))))

    def number(self, env):
        names = [name for name, kind in env if kind == "int"]
        if names and self.random.random() < 0.6:
            return ("name", self.one(names))
        return ("int", self.one((0, 1, 2, 7, -3, 2000000000)))

    def text(self, env):
        names = [name for name, kind in env if kind == "text"]
        if names and self.random.random() < 0.6:
            return ("name", self.one(names))
        return ("string", self.one(("", "a", "bc")))

    def block(self, kind, depth, env):
        chance = self.random.random()
        if depth <= 0 or chance < 0.4:
            steps, env, atom = self.steps(kind, depth, env)
            return tuple(steps), ("give", atom)
        if chance < 0.5:
            steps, env, atom = self.steps("exn", depth, env)
            return tuple(steps), ("throw", atom)
        below = depth - 1
        if chance < 0.7:
            steps, env, atom = self.steps("opt", below, env)
            known = []
            if atom[0] == "name":
                y = self.name()
                known = [(("bind", y, ("arg", atom)), y)]
            full = self.block(kind, below, env + [(y, "int") for _, y in known])
            full = (tuple(step for step, _ in known) + full[0], full[1])
            branches = ((0, self.block(kind, below, env)), (1, full))
            if self.random.random() < 0.4:
                return tuple(steps), ("switch", atom, branches[:1], self.block(kind, below, env))
            return tuple(steps), ("switch", atom, branches, None)
        if chance < 0.85:
            steps, env, atom = self.steps(self.one(("int", "text")), below, env)
            number = atom[0] == "int" or (atom[0] == "name" and dict(env)[atom[1]] == "int")
            choices = ((0, 1, 2) if number else ("", "a"))
            branches = tuple((c, self.block(kind, below, env)) for c in choices[:self.random.randint(0, 3)])
            return tuple(steps), ("choose", atom, branches, self.block(kind, below, env))
        steps, env, atom = self.steps("exn", below, env)
        made = [("name", name) for name, shape in env if shape in ("plain", "full")] + [("int", 1), ("int", 0)]
        branches = tuple((z, self.block(kind, below, env)) for z in made[:self.random.randint(0, 4)])
        return tuple(steps), ("unpack", atom, branches, self.block(kind, below, env))
