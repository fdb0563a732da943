"""Runs of units of the normal form (point 105, with points 7, 23 and 44), and of their functions (point 110)."""

import random
import unittest

from cores import BOOL, DATA, EXN, INT, STRING, T, UNIT, fun, held, listed
from guanaco.checker import check
from guanaco.closures import convert, run_functions
from guanaco.corerun import run_core
from guanaco.elaborate import elaborate
from guanaco.errors import CheckError
from guanaco.normal import normalize
from guanaco.parser import parse
from guanaco.running import run_normal
from programs import Writer
from test_elaborate import PROGRAMS
from units import BLOCKS, NO, bind, call, fix, give, i, n, of, prim, s, select, throw

STUCK = ("stuck",)
MORE = ("more",)
SPEAK = prim(800, "print", s("a"))


class Runs(unittest.TestCase):
    def run_both(self, unit, fuel):
        """The run of a unit, which is that of its functions."""
        found = run_normal(unit, fuel)
        self.assertEqual(run_functions(convert(unit), unit[1], fuel), found)
        return found

    def value(self, block, ty=INT, fuel=100, exceptions=()):
        """The value tree of a block, or the end of its run."""
        end = self.run_both(of(block, ty, exceptions), fuel)[1]
        return end[1][0][1] if end[0] == "done" else end

    def stuck(self, *blocks, ty=INT):
        for steps, end in blocks:
            self.assertEqual(self.value((steps, end), ty), STUCK, (steps, end))
            around = give(n(811), SPEAK, ("guard", 811, (steps, end), 812, give(i(1))))
            self.assertEqual(self.run_both(of(around, ty), 100), (("a",), STUCK), (steps, end))

    def test_each_kind(self):
        wanted = {
            "int": i(1), "prim": i(3), "apply": i(5), "tuple": s("a"), "make": ("con", "I", i(3)), "tag": ("con", "N", None),
            "unit": ("tuple", ()), "arg": i(3), "pack": ("exn", "Size", None), "sub": i(4), "guard": i(6), "switch": i(8),
            "choose": i(1), "unpack": i(2), "fix": i(7),
        }
        for name, (block, ty) in BLOCKS.items():
            self.assertEqual(self.value(block, ty), wanted[name], name)

    def test_fuel(self):
        for name, steps in (("int", 0), ("prim", 1), ("apply", 1), ("tuple", 0), ("arg", 0), ("guard", 0), ("choose", 1), ("fix", 11)):
            unit = of(*BLOCKS[name])
            self.assertEqual(self.run_both(unit, steps)[1][0], "done", name)
            if steps:
                self.assertEqual(self.run_both(unit, steps - 1)[1], MORE, name)

    def test_fuel_is_looked_at_first(self):
        for block in (give(n(0), prim(0, "plus", s("a"), i(1))), give(n(0), call(0, i(1), i(1))), give(n(0), prim(0, "get", i(1))),
                      give(n(0), prim(0, "quotient", i(1), i(0))), give(n(0), prim(0, "print", i(1)))):
            self.assertEqual(self.run_both(of(block), 0), ((), MORE))
        self.assertEqual(self.run_both(of(give(n(0), SPEAK, call(0, i(1), i(1)))), 1), (("a",), MORE))
        self.assertEqual(self.run_both(of(give(n(0), SPEAK, call(0, i(1), i(1)))), 2), (("a",), STUCK))

    def test_primitives(self):
        for name, atoms, wanted, ty in (
                ("plus", (i(1), i(2)), i(3), INT), ("remainder", (i(-7), i(2)), i(1), INT), ("negate", (i(3),), i(-3), INT),
                ("less", (i(1), i(2)), ("con", "True", None), BOOL), ("same", (s("a"), s("b")), ("con", "False", None), BOOL),
                ("size", (s("abc"),), i(3), INT), ("code", (s("a"), i(0)), i(97), INT), ("digits", (i(-5),), s("~5"), STRING),
                ("concat", (s("a"), s("b")), s("ab"), STRING), ("ref", (i(3),), ("ref", i(3)), held(INT)), ("print", (s("a"),), ("tuple", ()), UNIT)):
            self.assertEqual(self.value(give(n(0), prim(0, name, *atoms)), ty), wanted, name)
        for name, atoms, error in (("plus", (i(2000000000), i(1)), "Overflow"), ("quotient", (i(1), i(0)), "Div"),
                                   ("concat", (s("x" * 200), s("y")), "Size"), ("code", (s(""), i(0)), "Subscript")):
            self.assertEqual(self.value(give(n(0), prim(0, name, *atoms))), ("raised", error, None))
            caught = give(n(5), ("guard", 5, give(n(0), prim(0, name, *atoms)), 6, give(n(6))))
            self.assertEqual(self.value(caught, EXN), ("exn", error, None))
        assigned = give(n(2), prim(0, "ref", i(1)), prim(1, "assign", n(0), i(9)), prim(2, "get", n(0)))
        self.assertEqual(self.value(assigned), i(9))

    def test_values_of_other_kinds(self):
        makers = {
            "int": bind(700, "part", 0, n(701)), "string": bind(700, "part", 1, n(701)), "tuple": bind(700, "tuple", (i(1), s("a"))),
            "make": bind(700, "make", 0, i(1)), "pack": bind(700, "pack", i(1), None), "fn": bind(700, "part", 2, n(701)),
            "ref": prim(700, "ref", i(1)), "tag": bind(700, "part", 3, n(701)),
        }
        first = (fix((702, 703, give(i(1)))), bind(701, "tuple", (i(1), s("a"), n(702), ("tag", 0))))
        uses = {
            "int": prim(1, "negate", n(700)), "string": prim(1, "size", n(700)), "tuple": bind(1, "part", 0, n(700)), "make": bind(1, "arg", n(700)),
            "fn": call(1, n(700), i(1)), "ref": prim(1, "get", n(700)),
        }
        for kind, maker in makers.items():
            for other, use in uses.items():
                block = give(i(1), *first, maker, use)
                if kind == other:
                    self.assertEqual(self.value(block), i(1))
                else:
                    self.stuck(block)
            for other, end in (("switch", ("switch", n(700), ((0, give(i(1))),), give(i(1)))), ("int", ("choose", n(700), ((1, give(i(1))),), give(i(1)))),
                               ("string", ("choose", n(700), (("a", give(i(1))),), give(i(1)))), ("unpack", ("unpack", n(700), (), give(i(1))))):
                fits = {"switch": ("tag", "make"), "unpack": ("pack",), "int": ("int",), "string": ("string",)}[other]
                if kind in fits:
                    self.assertEqual(self.value((first + (maker,), end)), i(1))
                else:
                    self.stuck((first + (maker,), end))
            thrown = first + (maker,), ("throw", n(700))
            if kind == "pack":
                self.assertEqual(self.value(thrown), ("raised", "Div", None))
            else:
                self.stuck(thrown)

    def test_components_arguments_and_selections(self):
        pair = bind(0, "tuple", (i(1), i(2)))
        self.assertEqual(self.value(give(n(1), pair, bind(1, "part", 1, n(0)))), i(2))
        self.stuck(give(n(1), pair, bind(1, "part", 2, n(0))), give(n(1), bind(1, "part", 0, NO)), give(n(1), bind(1, "arg", NO)),
                   give(n(1), bind(0, "pack", i(1), None), bind(1, "arg", n(0))))
        self.assertEqual(self.value(give(n(1), bind(0, "pack", i(1), i(4)), bind(1, "arg", n(0)))), i(4))
        self.stuck(select("switch", NO, ((1, give(i(1))),), None), select("switch", NO, (), None))
        self.assertEqual(self.value(select("switch", ("tag", 3), ((1, give(i(1))), (3, give(i(2)))), give(i(3)))), i(2))
        self.assertEqual(self.value(select("switch", ("tag", 2), ((1, give(i(1))), (3, give(i(2)))), give(i(3)))), i(3))
        self.assertEqual(self.value(select("choose", s("b"), (("a", give(i(1))), ("b", give(i(2)))), give(i(3)))), i(2))
        self.assertEqual(self.value(select("choose", i(9), ((1, give(i(1))), (2, give(i(2)))), give(i(3)))), i(3))

    def test_exceptions(self):
        made = (bind(0, "fresh", 0), bind(1, "fresh", 1), bind(2, "pack", n(1), i(5)))
        table = (("E", None), ("F", INT))
        self.assertEqual(self.value(give(n(2), *made), EXN, exceptions=table), ("exn", "F", i(5)))
        self.assertEqual(self.value(give(n(0), *made), INT, exceptions=table), i(4))
        self.assertEqual(self.value(throw(n(2), *made), INT, exceptions=table), ("raised", "F", i(5)))
        chosen = select("unpack", n(2), ((n(0), give(i(1))), (n(1), give(i(2))), (n(1), give(i(4)))), give(i(3)), *made)
        self.assertEqual(self.value(chosen, exceptions=table), i(2))
        self.assertEqual(self.value(select("unpack", n(2), ((n(0), give(i(1))), (i(5), give(i(2)))), give(i(3)), *made), exceptions=table), i(2))
        self.assertEqual(self.value(select("unpack", n(2), ((i(1), give(i(1))),), give(i(3)), *made), exceptions=table), i(3))
        self.assertEqual(self.value(give(n(0), bind(0, "pack", i(3), None)), EXN), ("exn", "Subscript", None))
        self.stuck(give(n(0), bind(0, "pack", i(4), None)), give(n(0), bind(0, "pack", i(-1), None)), give(n(0), bind(0, "pack", NO, None)),
                   give(n(0), bind(0, "pack", s("a"), None)), ty=EXN)

    def test_an_unpack_by_what_is_no_exception(self):
        """As on the machine, which is stuck there (point 124)."""
        packed = bind(2, "pack", i(1), None)
        self.stuck(select("unpack", n(2), ((NO, give(i(1))),), give(i(3)), packed), select("unpack", n(2), ((i(0), give(i(1))), (s("a"), give(i(2)))), give(i(3)), packed))
        self.assertEqual(self.value(select("unpack", n(2), ((i(1), give(i(1))), (s("a"), give(i(2)))), give(i(3)), packed)), i(1))

    def test_an_exception_at_each_execution(self):
        body = give(n(2), bind(2, "fresh", 0))
        block = give(n(6), fix((0, 1, body)), call(3, n(0), NO), call(4, n(0), NO), prim(5, "ref", i(0)), bind(6, "tuple", (n(3), n(4))))
        self.assertEqual(self.value(block, ("tuple", (INT, INT)), exceptions=(("E", None),)), ("tuple", (i(4), i(5))))

    def test_guards(self):
        bad = throw(n(10), bind(10, "pack", i(1), None))
        self.assertEqual(self.value(give(n(0), ("guard", 0, give(i(1)), 2, give(i(2))))), i(1))
        self.assertEqual(self.value(give(n(0), ("guard", 0, bad, 2, throw(n(2))))), ("raised", "Div", None))
        inner = give(n(3), ("guard", 3, bad, 4, throw(n(4))))
        self.assertEqual(self.value(give(n(0), ("guard", 0, inner, 2, give(i(7))))), i(7))
        called = give(n(0), fix((20, 21, bad)), ("guard", 0, give(n(5), call(5, n(20), NO)), 2, give(i(8))))
        self.assertEqual(self.value(called), i(8))
        later = give(n(6), ("guard", 0, give(i(1)), 2, give(i(8))), ("sub", 6, bad))
        self.assertEqual(self.value(later), ("raised", "Div", None))
        last = give(n(7), fix((20, 21, give(n(22), ("guard", 22, give(n(23), call(23, n(21), NO)), 24, give(i(3)))))),
                    fix((30, 31, bad)), call(7, n(20), n(30)))
        self.assertEqual(self.value(last), i(3))

    def test_what_is_shown(self):
        for atom, ty, wanted in ((NO, UNIT, ("tuple", ())), (NO, BOOL, ("con", "False", None)), (NO, listed(INT), ("con", "Nil", None)),
                                 (("tag", 1), BOOL, ("con", "True", None)), (i(5), INT, i(5)), (s("a"), STRING, s("a"))):
            self.assertEqual(self.value(give(atom), ty), wanted)
        pair = bind(0, "tuple", (i(1), NO))
        self.assertEqual(self.value(give(n(0), pair), ("tuple", (INT, BOOL))), ("tuple", (i(1), ("con", "False", None))))
        self.assertEqual(self.value(give(n(1), pair, bind(1, "make", 1, n(0))), listed(INT)), ("con", "Cons", ("tuple", (i(1), ("con", "Nil", None)))))
        self.assertEqual(self.value(give(n(0), fix((0, 1, give(i(1))))), fun(INT, INT)), ("fn",))
        block = give(n(1), bind(0, "tuple", (i(1), s("a"))), bind(1, "make", 0, n(0)))
        self.assertEqual(self.value(block, ("con", "box.2", (INT, STRING))), ("con", "Box", ("tuple", (i(1), s("a")))))

    def test_what_is_shown_is_of_another_kind(self):
        for atom, ty in ((NO, INT), (s("a"), INT), (i(1), STRING), (i(1), UNIT), (("tag", 1), UNIT), (i(1), BOOL), (("tag", 2), BOOL),
                         (NO, ("tuple", (INT, INT))), (i(1), fun(INT, INT)), (i(1), EXN), (NO, held(INT)), (("tag", 1), listed(INT)), (("tag", 1), T), (i(1), T), (i(0), T)):
            self.assertEqual(self.value(give(atom), ty), STUCK, (atom, ty))
        for operation, ty in ((("tuple", (i(1), i(2))), ("tuple", (INT, INT, INT))), (("make", 0, i(1)), T), (("make", 1, s("a")), T), (("make", 2, i(1)), T),
                              (("pack", i(1), i(1)), EXN), (("tuple", (i(1), i(2))), ("tuple", (INT, STRING)))):
            self.assertEqual(self.value((((("bind", 0, operation)),), ("give", n(0))), ty), STUCK, operation)
        info = ((("v", ((), INT), "v.0", (), INT),), DATA, ())
        for block in (give(NO), give(i(1)), give(n(0), bind(0, "tuple", (i(1), i(1))))):
            self.assertEqual(self.run_both((block, info), 5)[1], STUCK)
        for block in (give(i(1)), give(("tag", 1)), give(n(0), bind(0, "tuple", (i(1),)))):
            self.assertEqual(self.run_both((block, ((), DATA, ())), 5)[1], STUCK)
        self.assertEqual(self.run_both((give(NO), ((), DATA, ())), 0), ((), ("done", ())))

    def test_many(self):
        def count(effect, times):
            body = select("choose", n(1), ((0, give(NO)),), give(n(3), effect, prim(2, "minus", n(1), i(1)), call(3, n(0), n(2))))
            return of(give(n(4), fix((0, 1, body)), call(4, n(0), i(times))), UNIT)
        reference = prim(800, "ref", i(1))
        self.assertEqual(self.run_both(count(reference, 1000), 9000)[1][0], "done")
        self.assertEqual(self.run_both(count(reference, 1001), 9000), ((), ("full",)))
        self.assertEqual(self.run_both(count(SPEAK, 200), 9000)[1][0], "done")
        self.assertEqual(self.run_both(count(SPEAK, 201), 9000), (("a",) * 200, ("full",)))
        self.assertEqual(self.run_both(count(SPEAK, 201), 601), (("a",) * 200, MORE))
        self.assertEqual(self.run_both(count(SPEAK, 201), 602), (("a",) * 200, ("full",)))

    def test_deep_calls(self):
        for body in (give(n(2), call(2, n(0), n(1))), give(n(3), call(2, n(0), n(1)), prim(3, "plus", i(1), n(2))),
                     give(n(2), ("guard", 2, give(n(3), call(3, n(0), n(1))), 4, give(i(1)))), give(n(2), ("sub", 2, give(n(3), call(3, n(0), n(1)))))):
            self.assertEqual(self.run_both(of(give(n(5), fix((0, 1, body)), call(5, n(0), i(1)))), 60000), ((), MORE))

    def test_programs(self):
        for text in PROGRAMS:
            core = elaborate(parse(text))
            unit = normalize(core)
            for fuel in (0, 1, 2, 5, 20, 2000):
                self.assertEqual(self.run_both(unit, fuel), run_core(core, fuel), (text, fuel))

    def test_random_programs(self):
        for seed in range(500, 560):
            writer = Writer(random.Random(seed))
            tree = writer.program(4, 4)
            try:
                check(tree)
            except CheckError:
                continue
            core = elaborate(tree)
            unit = normalize(core)
            for fuel in (0, 3, 17, 5000):
                self.assertEqual(self.run_both(unit, fuel), run_core(core, fuel), (seed, fuel))


if __name__ == "__main__":
    unittest.main()
