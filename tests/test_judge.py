"""The types of the core language (points 86 and 87)."""

import random
import unittest

from cores import A, BOOL, DATA, ERROR, EXN, INT, ONE, STRING, T, TYPED, UNIT, fun, held, let, listed, of, program, shown, var
from guanaco.core import is_formed
from guanaco.corerun import run_core
from guanaco.judge import is_typed
from test_core import replaced

B = ("var", "b")
TEXT = ("string", "a")
NIL = ("con", "list", (A,), 0, None)


def block(*parts):
    return ("block", parts[:-1], parts[-1])


class Typed(unittest.TestCase):
    def good(self, *rows):
        for e, ty in rows:
            self.assertIs(is_formed(of(e, ty)), True, e)
            self.assertIs(is_typed(of(e, ty)), True, e)

    def bad(self, *rows):
        for e, ty in rows:
            self.assertIs(is_formed(of(e, ty)), True, e)
            self.assertIs(is_typed(of(e, ty)), False, e)

    def test_each_form(self):
        for e, ty in TYPED.values():
            self.good((e, ty))
            for other in (INT, STRING, UNIT, fun(INT, INT), T, EXN, ("tuple", (INT, INT)), listed(T)):
                if other != ty:
                    self.bad((e, other))

    def test_what_is_not_formed(self):
        for core in ((), None, 1, (DATA, ()), program(let("x", INT, ONE)), of(("int", True)), of(("part", 9, ONE))):
            self.assertIs(is_typed(core), False)

    def test_variables(self):
        self.bad((var("y.1"), INT), (block(let("y.1", INT, ONE), var("y.1", INT)), INT), (var("x.0"), INT),
                 (block(let("y.1", INT, var("y.1")), ONE), INT), (("tuple", (block(let("y.1", INT, ONE), ONE), var("y.1"))), ("tuple", (INT, INT))))
        polymorphic = let("i.1", fun(A, A), ("fn", "y.2", A, var("y.2")), ("a",))
        self.good((block(polymorphic, var("i.1", INT)), fun(INT, INT)), (block(polymorphic, var("i.1", T)), fun(T, T)))
        self.bad((block(polymorphic, var("i.1")), fun(INT, INT)), (block(polymorphic, var("i.1", INT, INT)), fun(INT, INT)),
                 (block(polymorphic, var("i.1", INT)), fun(T, T)), (block(polymorphic, var("i.1", A)), fun(A, A)))

    def test_scopes(self):
        inner = block(let("y.1", INT, ONE), ONE)
        self.bad((("tuple", (inner, var("y.1"))), ("tuple", (INT, INT))),
                 (("tuple", (("fn", "y.1", INT, ONE), var("y.1"))), ("tuple", (fun(INT, INT), INT))),
                 (("handle", var("h.1"), "h.1", ONE), EXN),
                 (("tuple", (("handle", ONE, "h.1", ONE), var("h.1"))), ("tuple", (INT, EXN))),
                 (block(let("s.1", T, ("con", "t.1", (), 0, None)), ("switch", "s.1", ((0, None, var("y.2")), (1, "y.2", ONE)), None)), INT),
                 (("tuple", (block(("exception", "E.1", None), ONE), ("pack", "E.1", None))), ("tuple", (INT, EXN))),
                 (("tuple", (block(("fix", (("f.1", (), fun(INT, INT), "n.2", INT, ONE),)), ONE), var("n.2"))), ("tuple", (INT, INT))),
                 (("tuple", (block(("fix", (("f.1", (), fun(INT, INT), "n.2", INT, ONE),)), ONE), var("f.1"))), ("tuple", (INT, fun(INT, INT)))))
        self.good((("handle", ERROR, "h.1", ("raise", INT, var("h.1"))), INT))

    def test_functions(self):
        self.bad((("fn", "y.1", INT, var("y.1")), fun(STRING, INT)), (("apply", ONE, ONE), INT),
                 (("apply", ("fn", "y.1", INT, ONE), TEXT), INT), (("fn", "y.1", A, ONE), fun(A, INT)))

    def test_tuples(self):
        self.bad((("part", 2, ("tuple", (ONE, ONE))), INT), (("part", 0, ONE), INT), (("part", 0, ("tuple", ())), INT))
        self.good((("part", 0, ("tuple", (ONE, TEXT))), INT))

    def test_constructors(self):
        self.bad((("con", "t.1", (), 0, ONE), T), (("con", "t.1", (), 1, None), T), (("con", "t.1", (), 2, None), T),
                 (("con", "t.1", (), 1, TEXT), T), (("con", "int", (), 0, None), INT), (("con", "list", (A,), 0, None), listed(A)),
                 (("con", "list", (INT,), 1, ("tuple", (TEXT, ("con", "list", (INT,), 0, None)))), listed(INT)))

    def test_switches(self):
        def over(e, ty=T):
            return block(let("s.1", ty, ("con", "t.1", (), 0, None) if ty == T else ONE), e)
        both = ((0, None, ONE), (1, "y.2", var("y.2")))
        self.good((over(("switch", "s.1", both, ONE)), INT), (over(("switch", "s.1", (), ONE)), INT),
                  (over(("switch", "s.1", both[1:], ONE)), INT))
        self.bad((over(("switch", "s.1", both[:1], None)), INT), (over(("switch", "s.1", (), None)), INT),
                 (over(("switch", "s.1", both, TEXT)), INT), (over(("switch", "s.1", ((0, None, ONE), (1, "y.2", TEXT)), None)), INT),
                 (over(("switch", "s.1", ((0, "y.2", ONE), (1, "y.3", ONE)), None)), INT),
                 (over(("switch", "s.1", both + ((2, None, ONE),), None)), INT), (over(("switch", "s.1", ((2, None, ONE),), ONE)), INT),
                 (over(("switch", "s.1", both, None), INT), INT), (over(("switch", "s.9", both, None)), INT))
        polymorphic = let("s.1", listed(A), NIL, ("a",))
        self.bad((block(polymorphic, ("switch", "s.1", ((0, None, ONE),), ONE)), INT))

    def test_choices(self):
        def over(branches, ty, default=ONE):
            return block(let("s.1", ty, {INT: ONE, STRING: TEXT}.get(ty, ("tuple", ()))), ("choose", "s.1", branches, default))
        self.good((over((), INT), INT), (over((), STRING), INT), (over(((1, ONE),), INT), INT), (over((("a", ONE),), STRING), INT))
        self.bad((over(((1, ONE),), STRING), INT), (over((("a", ONE),), INT), INT), (over((), UNIT), INT),
                 (over(((1, TEXT),), INT), INT), (over(((1, ONE),), INT, TEXT), INT))
        polymorphic = let("s.1", INT, ONE, ("a",))
        self.bad((block(polymorphic, ("choose", "s.1", (), ONE)), INT))

    def test_exceptions(self):
        def over(branches, default=ONE, ty=EXN):
            return block(("exception", "E.1", INT), let("s.2", ty, ("pack", "Div", None) if ty == EXN else ONE), ("unpack", "s.2", branches, default))
        self.good((over((("E.1", "y.3", var("y.3")),)), INT), (over((("Div", None, ONE), ("Size", None, ONE))), INT))
        self.bad((over((("F.1", None, ONE),)), INT), (over((("Div", "y.3", ONE),)), INT), (over((("E.1", "y.3", TEXT),)), INT),
                 (over((), TEXT), INT), (over((), ONE, INT), INT), (over((("E.1", "y.3", var("y.3")),), TEXT), STRING))
        self.bad((("pack", "E.1", None), EXN), (("pack", "Div", ONE), EXN), (block(("exception", "E.1", INT), ("pack", "E.1", None)), EXN),
                 (block(("exception", "E.1", INT), ("pack", "E.1", TEXT)), EXN), (block(("exception", "E.1", None), ("pack", "E.1", ONE)), EXN),
                 (("raise", INT, ONE), INT), (("raise", A, ("pack", "Div", None)), A), (("handle", ONE, "h.1", TEXT), INT),
                 (("handle", TEXT, "h.1", ONE), INT))

    def test_primitives(self):
        self.good((("prim", "ref", (TEXT,)), held(STRING)), (("prim", "get", (("prim", "ref", (ONE,)),)), INT),
                  (("prim", "assign", (("prim", "ref", (ONE,)), ONE)), UNIT), (("prim", "less", (ONE, ONE)), BOOL),
                  (("prim", "print", (TEXT,)), UNIT), (("prim", "code", (TEXT, ONE)), INT), (("prim", "same", (TEXT, TEXT)), BOOL))
        self.bad((("prim", "plus", (ONE, TEXT)), INT), (("prim", "plus", (TEXT, ONE)), INT), (("prim", "get", (ONE,)), INT),
                 (("prim", "assign", (("prim", "ref", (ONE,)), TEXT)), UNIT), (("prim", "assign", (ONE, ONE)), UNIT),
                 (("prim", "equal", (TEXT, TEXT)), BOOL), (("prim", "size", (ONE,)), INT), (("prim", "ref", (ONE,)), held(STRING)))

    def test_letters(self):
        identity = ("fn", "y.9", A, var("y.9"))
        self.good((block(let("f.1", fun(A, A), identity, ("a",)), ONE), INT), (block(let("f.1", INT, ONE, ("a", "b")), ONE), INT))
        self.bad((block(let("f.1", fun(A, A), identity), ONE), INT), (block(let("f.1", fun(A, A), identity, ("b",)), ONE), INT))
        nested = let("f.1", fun(A, A), ("fn", "y.9", A, block(let("g.2", INT, ONE, ("a",)), var("y.9"))), ("a",))
        self.bad((block(nested, ONE), INT))
        apart = let("f.1", fun(A, A), ("fn", "y.9", A, block(let("g.2", fun(A, B), ("fn", "z.3", A, ("raise", B, ("pack", "Div", None))), ("b",)), var("y.9"))), ("a",))
        self.good((block(apart, ONE), INT))
        after = (let("f.1", fun(A, A), identity, ("a",)), let("g.2", listed(A), NIL, ("a",)))
        self.good((block(*after, ONE), INT))

    def test_only_quiet_expressions_have_letters(self):
        quiet = (
            ONE, TEXT, var("v.8"), ("fn", "y.1", INT, ERROR), ("tuple", (ONE, ONE)), ("part", 0, ("tuple", (ONE, ONE))),
            ("con", "t.1", (), 1, ONE), ("pack", "Div", None), ("switch", "s.9", ((0, None, ONE), (1, "y.1", ONE)), None),
            ("choose", "v.8", ((1, ONE),), ONE), ("unpack", "e.7", (("Div", None, ONE),), ONE),
            block(let("y.1", INT, ONE), ("fix", (("f.2", (), fun(INT, INT), "n.3", INT, ERROR),)), ONE),
        )
        loud = (
            ("apply", ("fn", "y.1", INT, ONE), ONE), ("prim", "plus", (ONE, ONE)), ERROR, ("handle", ONE, "h.1", ONE),
            ("tuple", (ONE, ERROR)), ("part", 0, ("tuple", (ERROR, ONE))), ("con", "t.1", (), 1, ERROR),
            ("switch", "s.9", ((0, None, ONE), (1, "y.1", ERROR)), None), ("choose", "v.8", ((1, ERROR),), ONE),
            ("choose", "v.8", ((1, ONE),), ERROR), ("unpack", "e.7", (("Div", None, ERROR),), ONE), block(ERROR),
            block(let("y.1", INT, ERROR), ONE), block(("exception", "E.1", None), ONE),
        )
        outer = (let("v.8", INT, ONE), let("s.9", T, ("con", "t.1", (), 0, None)), let("e.7", EXN, ("pack", "Div", None)))
        types = {"string": STRING, "fn": fun(INT, INT), "con": T, "pack": EXN}
        for rows, answer in ((quiet, True), (loud, False)):
            for e in rows:
                ty = ("tuple", (INT, INT)) if e[0] == "tuple" else types.get(e[0], INT)
                self.good((block(*outer, let("w.6", ty, e), ONE), INT))
                core = of(block(*outer, let("w.6", ty, e, ("a",)), ONE))
                self.assertIs(is_typed(core), answer, e)

    def test_fix(self):
        def group(*functions):
            return block(("fix", functions), ONE)
        self.good((group(("f.1", ("a",), fun(A, INT), "n.2", A, ("apply", var("g.3"), var("n.2"))),
                         ("g.3", ("a",), fun(A, INT), "n.4", A, ("apply", var("f.1"), var("n.4")))), INT))
        self.bad((group(("f.1", ("a",), fun(A, INT), "n.2", A, ("apply", var("f.1", A), var("n.2")))), INT),
                 (group(("f.1", (), fun(INT, STRING), "n.2", INT, ONE)), INT), (group(("f.1", (), fun(STRING, INT), "n.2", INT, ONE)), INT),
                 (group(("f.1", (), INT, "n.2", INT, ONE)), INT), (group(("f.1", (), fun(A, INT), "n.2", A, ONE)), INT),
                 (block(("fix", (("f.1", ("a",), fun(A, A), "n.2", A, var("n.2")),)), ("apply", var("f.1"), ONE)), INT))

    def test_shown(self):
        identity = let("f.1", fun(A, A), ("fn", "y.2", A, var("y.2")), ("a",))
        self.assertIs(is_typed(program(identity, show=(shown("f", "f.1", fun(A, A), ("a",)),))), True)
        for entry in (shown("f", "f.1", fun(INT, INT)), shown("f", "f.9", fun(A, A), ("a",)), shown("f", "y.2", A, ("a",)),
                      ("f", (("a",), fun(A, A)), "f.1", ("a", "b"), fun(A, A)), shown("f", "f.1", A, ("a",))):
            self.assertIs(is_typed(program(identity, show=(entry,))), False)
        other = ("f", ((), ("con", "hidden.5", ())), "f.1", ("a",), fun(A, A))
        self.assertIs(is_typed(program(identity, show=(other,))), True)

    def test_typed_programs_are_not_stuck(self):
        """Random changes of typed programs: those that are typed are never stuck, and all others are refused."""
        chooser = random.Random(9)
        pieces = [ONE, TEXT, var("y.1"), var("y.2"), INT, STRING, 0, 1, "y.1", None, (), T, EXN, "Div", ("con", "t.1", (), 0, None)]
        count = 0
        for _ in range(6000):
            e, ty = chooser.choice(list(TYPED.values()))
            core = replaced(of(e, ty), chooser, pieces)
            if is_typed(core):
                count += 1
                for fuel in (0, 1, 3, 50):
                    self.assertNotEqual(run_core(core, fuel)[1], ("stuck",), core)
        self.assertGreater(count, 100)

    def test_shapes(self):
        for e, ty in TYPED.values():
            end = run_core(of(e, ty), 100)[1]
            kinds = {"int": "int", "string": "string", "exn": "exn", "ref": "ref"}
            if end[0] == "done":
                wanted = {"fun": "fn", "tuple": "tuple"}.get(ty[0]) or kinds.get(ty[1], "con")
                self.assertEqual(end[1][0][1][0], wanted)


if __name__ == "__main__":
    unittest.main()
