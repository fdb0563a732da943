"""The runs of core programs (point 84)."""

import unittest

from cores import A, EXN, INT, ONE, STRING, T, TYPED, UNIT, fun, held, let, listed, of, program, shown, var
from guanaco.core import is_formed
from guanaco.corerun import run_core

STUCK = ("stuck",)
MORE = ("more",)
TEXT = ("string", "a")
SPEAK = ("prim", "print", (TEXT,))


def block(*parts):
    return ("block", parts[:-1], parts[-1])


def value(e, ty=INT, fuel=100):
    """The value tree of an expression, or the end of its run."""
    end = run_core(of(e, ty), fuel)[1]
    return end[1][0][1] if end[0] == "done" else end


class Runs(unittest.TestCase):
    def stuck(self, *expressions):
        for e in expressions:
            self.assertTrue(is_formed(of(e)), e)
            self.assertEqual(run_core(of(e), 100), ((), STUCK), e)
            around = block(let("z.90", UNIT, SPEAK), ("handle", ("apply", ("fn", "w.91", INT, e), ONE), "h.92", ONE))
            self.assertEqual(run_core(of(around), 100), (("a",), STUCK), e)

    def test_each_form(self):
        wanted = {
            "int": ONE, "string": TEXT, "var": ONE, "polymorphic": ONE, "fn": ("fn",), "apply": ONE, "block": ONE,
            "unit": ("tuple", ()), "tuple": ("tuple", (ONE, TEXT)), "part": TEXT, "con": ("con", "N", None),
            "con of": ("con", "I", ONE), "con at types": ("con", "Box", ("tuple", (ONE, TEXT))), "nil": ("con", "Nil", None),
            "switch": ONE, "switch with a default": ("int", 2), "choose": ONE, "choose a string": ONE, "unpack": ONE,
            "pack": ("exn", "Size", None), "raise": ("raised", "Div", None), "handle": ("int", 7), "prim": ("int", 2),
            "prim of one": ("string", "1"), "references": ("int", 5), "fix": ONE, "polymorphic fix": ONE,
        }
        for name, (e, ty) in TYPED.items():
            self.assertEqual(value(e, ty), wanted[name], name)

    def test_steps(self):
        for name, steps in (("int", 0), ("apply", 1), ("prim", 1), ("references", 3), ("fix", 3), ("polymorphic fix", 1),
                            ("switch", 0), ("con of", 0), ("unpack", 0)):
            core = of(*TYPED[name])
            self.assertEqual(run_core(core, steps)[1][0], "done", name)
            if steps:
                self.assertEqual(run_core(core, steps - 1)[1], MORE, name)

    def test_fuel_comes_behind_the_parts_and_ahead_of_the_rest(self):
        self.assertEqual(run_core(of(("apply", ONE, ONE)), 0)[1], MORE)
        self.assertEqual(run_core(of(("prim", "plus", (TEXT, ONE))), 0)[1], MORE)
        self.assertEqual(run_core(of(("prim", "plus", (var("y"), ONE))), 0)[1], STUCK)
        self.assertEqual(run_core(of(("apply", ONE, var("y"))), 0)[1], STUCK)
        self.assertEqual(run_core(of(("apply", ("fn", "y.1", INT, ONE), SPEAK)), 1), (("a",), MORE))

    def test_shown(self):
        core = program(let("x.1", INT, ONE), ("exception", "E'2.2", INT), let("y.3", EXN, ("pack", "E'2.2", ONE)),
                       show=(shown("b", "y.3", EXN), shown("a", "x.1", INT), shown("c", "x.1", INT)))
        self.assertEqual(run_core(core, 0), ((), ("done", (("b", ("exn", "E'2", ONE)), ("a", ONE), ("c", ONE)))))
        self.assertEqual(run_core(program(show=(shown("x", "x.1", INT),)), 0)[1], STUCK)
        inner = let("x.1", INT, block(let("y.2", INT, ONE), ONE))
        self.assertEqual(run_core(program(inner, show=(shown("y", "y.2", INT),)), 0)[1], STUCK)
        self.assertEqual(run_core(program(), 0), ((), ("done", ())))

    def test_names_of_constructors(self):
        data = (("bool", (), (("False", None), ("True", None))),
                ("list", ("a",), (("Nil", None), ("Cons", ("tuple", (A, listed(A)))))),
                ("t.1", (), (("One", None), ("Two", INT))), ("u.2", (), (("Three", None), ("Four", INT))))
        core = program(let("x.1", T, ("con", "u.2", (), 1, ONE)), show=(shown("x", "x.1", T),), data=data)
        self.assertEqual(run_core(core, 0)[1], ("done", (("x", ("con", "Four", ONE)),)))

    def test_references_at_the_end(self):
        core = program(let("r.1", held(INT), ("prim", "ref", (ONE,))), let("u.2", UNIT, ("prim", "assign", (var("r.1"), ("int", 9)))),
                       show=(shown("r", "r.1", held(INT)),))
        self.assertEqual(run_core(core, 9)[1], ("done", (("r", ("ref", ("int", 9))),)))

    def test_order(self):
        def speak(text):
            return ("prim", "print", (("string", text),))
        cases = (
            ("apply", block(let("u.1", UNIT, speak("a")), ("fn", "y.2", UNIT, speak("c"))), speak("b")),
            ("tuple", (speak("a"), speak("b"), speak("c"))),
            block(let("u.1", UNIT, speak("a")), let("u.2", UNIT, speak("b")), speak("c")),
            ("handle", block(let("u.1", UNIT, ("tuple", (speak("a"), speak("b")))), ("raise", UNIT, ("pack", "Div", None))), "h.2", speak("c")),
            ("prim", "assign", (block(let("u.1", UNIT, speak("a")), ("prim", "ref", (speak("b"),))), speak("c"))),
        )
        for e in cases:
            self.assertEqual(run_core(of(e), 100)[0], ("a", "b", "c"))

    def test_exceptions(self):
        self.assertEqual(run_core(of(("raise", INT, ("pack", "Div", None))), 5)[1], ("raised", "Div", None))
        raised = block(("exception", "E.1", INT), ("raise", INT, ("pack", "E.1", ONE)))
        self.assertEqual(run_core(of(raised), 5)[1], ("raised", "E", ONE))
        again = block(("fix", (("f.1", (), fun(UNIT, EXN), "u.2", UNIT, block(("exception", "E.3", None), let("e.4", EXN, ("pack", "E.3", None)),
                      ("tuple", (var("e.4"), ("fn", "x.5", EXN, ("unpack", "x.5", (("E.3", None, ONE),), ("int", 2)))))),),)),
                      let("a.6", INT, ("apply", var("f.1"), ("tuple", ()))), let("b.7", INT, ("apply", var("f.1"), ("tuple", ()))),
                      ("tuple", tuple(("apply", ("part", 1, var(one)), ("part", 0, var(other))) for one in ("a.6", "b.7") for other in ("a.6", "b.7"))))
        self.assertEqual(value(again), ("tuple", (ONE, ("int", 2), ("int", 2), ONE)))
        self.assertEqual(value(("handle", ("prim", "quotient", (ONE, ("int", 0))), "h.1", ("unpack", "h.1", (("Size", None, ONE), ("Div", None, ("int", 3))), ONE))), ("int", 3))
        self.assertEqual(value(("handle", ("raise", INT, ("pack", "Div", None)), "h.1", ("raise", INT, ("pack", "Size", None)))), ("raised", "Size", None))

    def test_variables_and_exceptions_that_are_not_in_scope(self):
        self.stuck(var("y"), var("y.1"), var("x.0"), ("pack", "E.1", None), ("pack", "E.1", ONE), var("Div"),
                   ("tuple", (block(let("y.1", INT, ONE), ONE), var("y.1"))), ("tuple", (block(("exception", "E.1", None), ONE), ("pack", "E.1", None))),
                   block(let("y.1", INT, var("y.1")), ONE), block(let("f.1", INT, ("fn", "z.2", INT, var("y.3"))), let("y.3", INT, ONE), ("apply", var("f.1"), ONE)),
                   ("handle", var("h.1"), "h.1", ONE), block(("exception", "E.1", None), var("E.1")), ("pack", "y.1", None),
                   ("switch", "y", (), ONE), ("choose", "y", (), ONE), ("unpack", "y", (), ONE),
                   block(let("e.1", EXN, ("pack", "Div", None)), ("unpack", "e.1", (("E.2", None, ONE), ("Div", None, ONE)), ONE)),
                   ("apply", ("apply", ("fn", "y.1", INT, ("fn", "z.2", INT, ONE)), var("y.1")), ONE))
        earlier = block(let("e.1", EXN, ("pack", "Div", None)), ("unpack", "e.1", (("Div", None, ONE), ("E.2", None, ONE)), ONE))
        self.assertEqual(value(earlier), ONE)

    def test_values_of_other_kinds(self):
        self.stuck(("apply", ONE, ONE), ("apply", ("tuple", ()), ONE), ("part", 0, ONE), ("part", 2, ("tuple", (ONE, ONE))), ("part", 0, ("tuple", ())),
                   ("raise", INT, ONE), ("raise", INT, ("con", "t.1", (), 0, None)), ("prim", "plus", (ONE, TEXT)), ("prim", "get", (ONE,)),
                   ("prim", "assign", (ONE, ONE)), ("prim", "print", (ONE,)), ("prim", "size", (ONE,)), ("prim", "code", (TEXT, TEXT)), ("prim", "same", (ONE, ONE)))
        for e in (ONE, TEXT, ("tuple", ()), ("pack", "Div", None), ("fn", "q.8", INT, ONE), ("prim", "ref", (ONE,)), ("con", "t.1", (), 0, None)):
            bound = let("s.1", INT, e)
            selections = {"con": ("switch", "s.1", (), ONE), "int": ("choose", "s.1", ((1, ONE),), ONE), "string": ("choose", "s.1", (("a", ONE),), ONE),
                          "pack": ("unpack", "s.1", (), ONE)}
            for kind, selection in selections.items():
                if e[0] == kind:
                    self.assertEqual(value(block(bound, selection)), ONE)
                else:
                    self.stuck(block(bound, selection))
            if e[0] in ("int", "string"):
                self.assertEqual(value(block(bound, ("choose", "s.1", (), ONE))), ONE)

    def test_constructors(self):
        self.stuck(("con", "t.1", (), 2, None), ("con", "t.1", (), 2, ONE), ("con", "int", (), 0, None), ("con", "ref", (INT,), 0, ONE))
        self.assertEqual(run_core(of(("con", "t.1", (), 2, SPEAK)), 5), (("a",), STUCK))
        bare, full = let("s.1", T, ("con", "t.1", (), 0, None)), let("s.1", T, ("con", "t.1", (), 1, ONE))
        self.stuck(block(bare, ("switch", "s.1", ((1, None, ONE),), None)), block(bare, ("switch", "s.1", (), None)),
                   block(bare, ("switch", "s.1", ((0, "y.2", ONE),), ONE)),
                   block(let("s.1", EXN, ("pack", "Div", None)), ("unpack", "s.1", (("Div", "y.2", ONE),), ONE)))
        self.assertEqual(value(block(full, ("switch", "s.1", ((1, None, ONE),), None))), ONE)
        self.assertEqual(value(block(full, ("switch", "s.1", ((0, None, TEXT),), ONE))), ONE)
        other = let("s.1", T, ("con", "bool", (), 1, None))
        self.assertEqual(value(block(other, ("switch", "s.1", ((1, None, ONE),), None))), ONE)

    def test_ranges(self):
        """Programs that are formed have no such constants, but the run is stuck at them all the same."""
        self.assertEqual(run_core(of(("int", 2000000001)), 5)[1], STUCK)
        self.assertEqual(run_core(of(("string", "x" * 201)), 5)[1], STUCK)
        for e, ty in ((("int", 2000000000), INT), (("int", -2000000000), INT), (("string", "x" * 200), STRING)):
            self.assertEqual(value(e, ty), e)

    def test_many(self):
        def count(effect, times):
            return of(block(("fix", (("f.1", (), fun(INT, UNIT), "n.2", INT, ("choose", "n.2", ((0, ("tuple", ())),),
                      block(let("u.3", UNIT, effect), ("apply", var("f.1"), ("prim", "minus", (var("n.2"), ONE)))))),)),
                      ("apply", var("f.1"), ("int", times))), UNIT)
        self.assertEqual(run_core(count(("prim", "ref", (ONE,)), 1000), 9000)[1][0], "done")
        self.assertEqual(run_core(count(("prim", "ref", (ONE,)), 1001), 9000), ((), ("full",)))
        self.assertEqual(run_core(count(SPEAK, 200), 9000)[1][0], "done")
        self.assertEqual(run_core(count(SPEAK, 201), 9000), (("a",) * 200, ("full",)))
        self.assertEqual(run_core(count(SPEAK, 201), 601), (("a",) * 200, MORE))

    def test_deep_calls(self):
        for body in (("apply", var("f.1"), var("n.2")), ("prim", "plus", (ONE, ("apply", var("f.1"), var("n.2")))),
                     ("handle", ("apply", var("f.1"), var("n.2")), "h.3", ONE)):
            core = of(block(("fix", (("f.1", (), fun(INT, INT), "n.2", INT, body),)), ("apply", var("f.1"), ONE)))
            self.assertEqual(run_core(core, 100000), ((), MORE))

    def test_value_trees(self):
        e = ("string", "end")
        for _ in range(150):
            e = ("tuple", (ONE, e))
        tree = value(e, STRING)
        for _ in range(99):
            self.assertEqual(tree[1][0], ONE)
            tree = tree[1][1]
        self.assertEqual(tree, ("tuple", (ONE, ("deep",))))


if __name__ == "__main__":
    unittest.main()
