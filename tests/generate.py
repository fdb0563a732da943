"""Random trees for the tests. The seeds are fixed, so that each run tests the same."""

LOWS = ("a", "x", "y'", "f_1", "plus", "negate", "get", "equal", "assign")
HIGHS = ("A", "Nil", "Cons", "True", "False", "E'2")


class Maker:
    """Makes random trees of a bounded depth."""

    def __init__(self, random):
        self.random = random

    def one(self, choices):
        return self.random.choice(choices)

    def some(self, least, most, make):
        return tuple(make() for _ in range(self.random.randint(least, most)))

    def low_path(self):
        return self.some(0, 1, lambda: self.one(("S", "T"))) + (self.one(LOWS),)

    def high_path(self):
        return self.some(0, 1, lambda: self.one(("S", "T"))) + (self.one(HIGHS),)

    def number(self):
        return self.one((0, 1, -1, 42, -7, 10 ** 17, -10 ** 17))

    def text(self):
        return self.one(("", "a b", "\n", "\\n", "\"", "(*", "~"))

    def letters(self):
        return tuple(self.random.sample("abc", self.random.randint(0, 3)))

    def ty(self, depth):
        if depth <= 1:
            return self.one((("tyvar", "a"), ("tycon", ("int",), ()), ("tytuple", ()), ("tycon", ("S", "t"), ())))
        kind = self.random.randint(0, 4)
        if kind == 0:
            return ("tyfun", self.ty(depth - 1), self.ty(depth - 1))
        if kind == 1:
            return ("tytuple", self.some(2, 3, lambda: self.ty(depth - 1)))
        if kind in (2, 3):
            path = self.one((("t",), ("S", "t"), ("unit",)))
            return ("tycon", path, self.some(1, 3, lambda: self.ty(depth - 1)))
        return self.ty(1)

    def pattern(self, depth):
        counter = []
        return self.pattern_of(depth, counter)

    def pattern_of(self, depth, seen):
        kind = self.random.randint(0, 9)
        if kind == 0:
            name = f"v{len(seen)}"
            seen.append(name)
            return ("name", name)
        if kind == 1 or depth <= 1:
            return self.one((("any",), ("ptuple", ())))
        if kind == 2:
            return ("pint", self.number())
        if kind == 3:
            return ("pstring", self.text())
        if kind == 4:
            return ("pcon", self.high_path(), None)
        if kind == 5:
            return ("ptuple", self.some(2, 3, lambda: self.pattern_of(depth - 1, seen)))
        if kind in (6, 7) and depth > 2:
            parts = (self.pattern_of(depth - 2, seen), self.pattern_of(depth - 2, seen))
            return ("pcon", ("Cons",), ("ptuple", parts))
        return ("pcon", self.high_path(), self.pattern_of(depth - 1, seen))

    def rules(self, depth):
        return self.some(1, 3, lambda: (self.pattern(min(depth - 1, 3)), self.expression(depth - 1)))

    def expression(self, depth):
        if depth <= 1:
            return self.leaf()
        kind = self.random.randint(0, 15)
        below = depth - 1
        if kind == 0:
            return self.leaf()
        if kind == 1:
            return ("tuple", self.some(2, 3, lambda: self.expression(below)))
        if kind == 2:
            return ("app", self.expression(below), self.expression(below))
        if kind == 3:
            return ("fn", self.rules(depth))
        if kind == 4:
            return ("case", self.expression(below), self.rules(depth))
        if kind == 5:
            return ("if", self.expression(below), self.expression(below), self.expression(below))
        if kind == 6:
            return ("let", self.some(0, 2, lambda: self.local(below)), self.expression(below))
        if kind == 7:
            return ("seq", self.expression(below), self.expression(below))
        if kind == 8:
            return ("raise", self.expression(below))
        if kind == 9:
            return ("handle", self.expression(below), self.rules(depth))
        if kind == 10:
            return ("typed", self.expression(below), self.ty(2))
        if kind == 11:
            return ("app", ("var", (self.one(("get", "negate")),)), self.expression(below))
        if kind == 12:
            return self.one((("if", self.expression(below), ("con", ("True",)), self.expression(below)),
                             ("if", self.expression(below), self.expression(below), ("con", ("False",)))))
        names = ("plus", "minus", "times", "quotient", "remainder", "concat", "equal", "unequal", "less", "atmost",
                 "greater", "atleast", "assign")
        function = ("con", ("Cons",)) if kind == 13 else ("var", (self.one(names),))
        return ("app", function, ("tuple", (self.expression(below - 1), self.expression(below - 1))))

    def leaf(self):
        return self.one((("int", self.number()), ("string", self.text()), ("var", self.low_path()),
                         ("con", self.high_path()), ("tuple", ())))

    def optional(self, make):
        return make() if self.random.random() < 0.5 else None

    def local(self, depth):
        kind = self.random.randint(0, 3)
        if kind == 0:
            return ("val", self.pattern(3), self.expression(depth - 1))
        if kind == 1:
            return ("fun", self.some(1, 2, lambda: (self.one(LOWS), self.rules(depth))))
        if kind == 2:
            return ("exception", self.one(HIGHS), self.optional(lambda: self.ty(2)))
        return ("open", self.some(1, 2, lambda: self.one(("S", "T"))))

    def datatypes(self):
        return self.some(1, 2, lambda: (self.letters(), self.one(("t", "u")), self.some(
            1, 3, lambda: (self.one(HIGHS), self.optional(lambda: self.ty(3))))))

    def declaration(self, depth):
        kind = self.random.randint(0, 4)
        if kind == 0:
            return ("datatype", self.datatypes())
        if kind == 1:
            return ("alias", self.letters(), "t", self.ty(3))
        if kind == 2:
            return ("structure", self.one(("S", "T")), self.structure(depth - 1))
        return self.local(depth)

    def structure(self, depth):
        kind = self.random.randint(0, 3)
        if kind == 0 or depth <= 1:
            return ("path", self.some(1, 2, lambda: self.one(("S", "T"))))
        if kind == 1:
            return ("struct", self.some(0, 3, lambda: self.declaration(depth - 1)))
        if kind == 2:
            return ("apply", "F", self.structure(depth - 1))
        return ("seal", self.structure(depth - 1), self.signature(depth - 1), self.random.random() < 0.5)

    def signature(self, depth):
        kind = self.random.randint(0, 2)
        if kind == 0 or depth <= 1:
            return ("signame", self.one(("G", "H")))
        if kind == 1:
            return ("sig", self.some(0, 3, lambda: self.specification(depth - 1)))
        return ("where", self.signature(depth - 1), self.one((("t",), ("S", "t"))), self.letters(), self.ty(2))

    def specification(self, depth):
        kind = self.random.randint(0, 4)
        if kind == 0:
            return ("sval", "x", self.ty(3))
        if kind == 1:
            return ("stype", self.letters(), "t", self.optional(lambda: self.ty(2)))
        if kind == 2:
            return ("sdata", self.datatypes())
        if kind == 3:
            return ("sexn", "E", self.optional(lambda: self.ty(2)))
        return ("sstr", "S", self.signature(depth - 1))

    def outermost(self, depth):
        kind = self.random.randint(0, 4)
        if kind == 0:
            return ("signature", "G", self.signature(depth - 1))
        if kind == 1:
            return ("functor", "F", "X", self.signature(depth - 1), self.structure(depth - 1))
        return self.declaration(depth)
