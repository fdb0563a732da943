"""No function changes its arguments, no answer depends on earlier calls (point 2), and the interface is as listed."""

import copy
import importlib
import inspect
import random
import unittest

from generate import Maker
from guanaco import errors
from guanaco.assembly import read_code, write_code
from guanaco.build import Build
from guanaco.checker import check, principal
from guanaco.closures import convert, run_functions
from guanaco.compiler import compile_program
from guanaco.cover import missing, unused
from guanaco.core import is_formed, measure_core
from guanaco.corerun import run_core
from guanaco.decisions import decide, follow
from guanaco.define import run
from guanaco.elaborate import elaborate, elaborate_with
from guanaco.emitter import emit
from guanaco.heap import Heap
from guanaco.inspect import is_sound
from guanaco.judge import is_typed
from guanaco.linker import link
from guanaco.machine import run_code, trace
from guanaco.monos import close, instance, nodes, scheme_ty, ty_scheme, unify, variables
from guanaco.normal import is_closed, measure, normalize, renumber
from guanaco.optimizer import optimize, reducible
from guanaco.parser import parse, parse_expression, parse_ty
from guanaco.printer import print_expression, print_program, print_ty
from guanaco.running import run_normal
from guanaco.session import session
from guanaco.tokens import read_tokens
from guanaco.trees import height, names, size
from guanaco.units import compile_unit, read_object, write_object
from values import BOOL, DATA, listed

PROGRAMS = (
    "", "val x = 1", "datatype 'a t = A of 'a | B fun f (A x) = x | f B = raise Div val y = f (A 1)",
    "signature G = sig type t val x : t end structure S :> G = struct type t = int val x = 1 end val y = S.x",
    "functor F (X : sig type t end) = struct datatype d = D of X.t end structure A = F (struct type t = int end) "
    "structure B = F (struct type t = A.d end) val x = B.D (A.D 1)",
    "val x = y", "val x = 1 + True", "val x = case 1 of 2 => 3", "val x = fn _ => 1 | _ => 2",
    "structure S : sig val x : int end = struct end", "exception E of int val x = 1 handle E n => n | Div => 2",
)
INTERFACE = {
    "tokens": {"read_tokens": 1}, "trees": {"size": 1, "height": 1, "names": 1},
    "parser": {"parse": 1, "parse_expression": 1, "parse_ty": 1},
    "printer": {"print_program": 1, "print_expression": 1, "print_ty": 1},
    "monos": {"substitute": 2, "variables": 1, "nodes": 1, "close": 1, "instance": 2, "scheme_ty": 1, "ty_scheme": 1, "unify": 1},
    "checker": {"check": 1, "check_with": 2, "principal": 1}, "cover": {"missing": 3, "unused": 3},
    "decisions": {"decide": 3, "follow": 2}, "define": {"run": 2}, "core": {"is_formed": 1, "measure_core": 1},
    "judge": {"is_typed": 1}, "corerun": {"run_core": 2}, "elaborate": {"elaborate": 1, "elaborate_with": 2},
    "normal": {"normalize": 1, "is_closed": 1, "measure": 1, "renumber": 1}, "running": {"run_normal": 2},
    "optimizer": {"reducible": 1, "optimize": 1}, "closures": {"convert": 1, "run_functions": 3},
    "assembly": {"write_code": 1, "read_code": 1}, "inspect": {"is_sound": 1}, "emitter": {"emit": 1}, "heap": {"Heap": 1},
    "machine": {"run_code": 5, "trace": 4}, "compiler": {"compile_program": 1}, "linker": {"link": 2}, "build": {"Build": 0}, "session": {"session": 1},
    "units": {"compile_unit": 2, "write_object": 1, "read_object": 1},
}
METHODS = {
    Heap: {"is_full": 0, "make": 3, "look": 1, "store": 2, "minor": 1, "major": 1, "counts": 0},
    Build: {"apply": 1, "units": 0, "state": 1, "objects": 0},
}


def answer(function, *arguments):
    """What a call returns, or the error that it raises with its fields."""
    try:
        return function(*arguments)
    except errors.GuanacoError as error:
        return type(error).__name__, sorted(vars(error).items())


class Answers(unittest.TestCase):
    def same(self, function, *arguments):
        before = copy.deepcopy(arguments)
        first = answer(function, *arguments)
        self.assertEqual(arguments, before)
        kept = copy.deepcopy(first)
        if isinstance(first, list):
            first.append("more")
        if isinstance(first, dict):
            first["more"] = "more"
        self.assertEqual(answer(function, *arguments), kept)
        return kept

    def test_texts(self):
        for text in PROGRAMS + (")", "00", "(" * 61, "(1, 2, 3, 4, 5, 6, 7)"):
            for function in (read_tokens, parse, parse_expression, parse_ty):
                self.same(function, text)

    def test_trees(self):
        for seed in range(60):
            maker = Maker(random.Random(seed))
            e, ty, pattern = maker.expression(4), maker.ty(4), maker.pattern(4)
            program = tuple(maker.outermost(4) for _ in range(2))
            for function, tree in ((print_expression, e), (print_ty, ty), (print_program, program), (names, pattern)):
                self.same(function, tree)
            for tree in (e, ty, pattern, program):
                self.same(size, tree)
                self.same(height, tree)

    def test_programs(self):
        trees = [parse(text) for text in PROGRAMS]
        first = [self.same(check, tree) for tree in trees]
        self.assertEqual([answer(check, tree) for tree in reversed(trees)], list(reversed(first)))
        for text in ("fn x => x", "1 + True", "z", "ref []"):
            self.same(principal, parse_expression(text))

    def test_runs(self):
        trees = [parse(text) for text in PROGRAMS]
        for tree in trees:
            self.same(run, tree, 20)
            core = self.same(elaborate, tree)
            if len(core) == 3:
                for function in (is_formed, is_typed, measure_core):
                    self.same(function, core)
                self.same(run_core, core, 20)
                self.check_unit(core)
        structures = (("A", (("x", (("a",), ("var", "a"))),)),)
        self.same(elaborate_with, parse("val y = A.x : int"), structures)

    def check_unit(self, core):
        unit = self.same(normalize, core)
        for function in (is_closed, measure, renumber, reducible):
            self.same(function, unit[0])
        self.same(optimize, unit)
        self.same(run_normal, unit, 20)
        functions = self.same(convert, unit)
        self.same(run_functions, functions, unit[1], 20)
        code = self.same(emit, functions)
        self.same(is_sound, code)
        self.same(read_code, self.same(write_code, code))
        self.same(run_code, code, unit[1], 20, 2, 3)
        self.same(trace, code, 20, 2, 3)

    def test_units(self):
        for text in PROGRAMS:
            self.same(compile_program, parse(text))
            o = self.same(compile_unit, ("U", (), text), {})
            if len(o) == 6:
                self.same(read_object, self.same(write_object, o))
                other = self.same(compile_unit, ("V", ("U",), "val x = 1"), {"U": o[3]})
                self.same(link, [other, o], "V")
                self.same(link, [other], "V")
            self.same(session, f"unit A\n{text}\n.\nunit B A\n.\nbuild\nobject A\nrun B 20 3 3\ncode A\ninterface A")
        for text in ("", "function 0 slots 2\nreturn r0", "x"):
            self.same(read_code, text)
            self.same(read_object, text)

    def test_types(self):
        ty = ("fun", ("var", 3), ("con", "list", (("var", "b"),)))
        for function in (variables, nodes, close):
            self.same(function, ty)
        self.same(instance, (("a",), ("var", "a")), [ty])
        self.same(unify, [(ty, ("fun", ("var", 1), ("var", 2)))])
        self.same(ty_scheme, parse_ty("'a -> 'b list"))
        self.same(scheme_ty, (("a",), ("var", "a")))

    def test_matches(self):
        rows = [("pcon", ("Nil",), None), ("pcon", ("Cons",), ("ptuple", (("pcon", ("True",), None), ("any",))))]
        for function in (missing, unused, decide):
            self.same(function, DATA, listed(BOOL), rows + [("any",)])
        self.same(follow, decide(DATA, listed(BOOL), rows + [("any",)]), ("con", "Nil", None))


class Interface(unittest.TestCase):
    def test_functions(self):
        for module, functions in INTERFACE.items():
            for name, count in functions.items():
                function = getattr(importlib.import_module("guanaco." + module), name)
                self.assertEqual(function.__module__, "guanaco." + module)
                self.assertEqual(len(inspect.signature(function).parameters), count)

    def test_methods(self):
        for owner, methods in METHODS.items():
            for name, count in methods.items():
                self.assertIn(name, vars(owner))
                self.assertEqual(len(inspect.signature(vars(owner)[name]).parameters), 1 + count)


if __name__ == "__main__":
    unittest.main()
