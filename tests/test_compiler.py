"""Compiling programs (points 1, 104 to 116 and 125, over the whole program)."""

import random
import unittest

import test_define
from guanaco import errors
from guanaco.assembly import read_code, write_code
from guanaco.checker import check
from guanaco.closures import convert, run_functions
from guanaco.compiler import compile_program
from guanaco.corerun import run_core
from guanaco.define import run
from guanaco.elaborate import elaborate
from guanaco.inspect import is_sound
from guanaco.judge import is_typed
from guanaco.machine import run_code
from guanaco.normal import normalize
from guanaco.optimizer import optimize
from guanaco.parser import parse
from guanaco.running import run_normal
from module_programs import ModuleWriter
from programs import Writer
from running import FULL, MORE, STUCK, agree
from test_elaborate import PROGRAMS

FUELS = (0, 1, 2, 3, 5, 8, 13, 30, 100, 2000)
SIZES = ((1, 1), (1, 60), (2, 3), (7, 2), (50, 10), (1000, 60))
MORE_PROGRAMS = (
    "fun f 0 = 0 | f n = g (n - 1) and g 0 = 1 | g n = h (n - 1, n) and h (0, _) = 2 | h (n, m) = 1 + f (n - 1) val x = (f 10, g 10, h (7, 7), f 30)",
    "fun f n = let exception E of int in if n = 0 then 0 else (raise E (f (n - 1) + 1)) handle E m => m end val x = f 20",
    "fun make n = let exception E of int in (E n, fn E m => m | _ => ~1) end val (a, f) = make 1 val (b, g) = make 2 val x = (f a, f b, g a, g b)",
    "exception A exception B of int val l = [A, B 1, Div, B 2] fun tell [] = [] | tell (A :: r) = 0 :: tell r | tell (B n :: r) = n :: tell r | tell (_ :: r) = 9 :: tell r "
    "val x = tell l val y = fn () => raise B 3 val z = y () handle e => (case e of B n => n | _ => 0)",
    "functor F (X : sig type t val x : t end) = struct datatype d = D of X.t val d = D X.x exception E of d end "
    "functor G (Y : sig type t val x : t end) = struct structure A = F (Y) structure B = F (struct type t = A.d val x = A.d end) end "
    "structure P = G (struct type t = int val x = 5 end) structure Q = G (struct type t = P.B.d val x = P.B.d end) val a = P.B.d val b = Q.B.d "
    "val c = (raise Q.A.E Q.A.d) handle P.A.E _ => 1 | Q.A.E (Q.A.D (P.B.D (P.A.D n))) => n",
    "structure S :> sig type t exception E of t val mk : int -> t val un : t -> int structure In : sig val k : t end end "
    "= struct type t = int list exception E of t fun mk n = [n, n] fun un l = (case l of [] => 0 | n :: _ => n) structure In = struct val k = [7] end end "
    "open S val x = un In.k val y = (raise E (mk 3)) handle E t => un t + un (mk 4) val z = mk 9 val e = E z",
    "datatype ('a, 'b) t = L of 'a | R of 'b | N val x = (L 1, R \"a\", N, L (R 2)) fun swap (L a) = R a | swap (R b) = L b | swap N = N "
    "val y = [swap (L 1), R 5, N] val f = L val g = [L, fn _ => N] val z = case g of h :: _ => h 4 | [] => N val w = f (f 2)",
    "val x = 1 val x = (x, 2) fun x y = (y, 3) val y = x (x 4) val x = y val x = (x, x)",
    "val c = Cons val m = fn k => k (1, []) val x = (m c, m Cons) datatype t = T of int val f = T fun g h = h 1 val y = (g T, g f)",
    "fun f (x, y) = f (y, x) val r = ref 5 fun count () = if !r = 0 then \"end\" else (r := !r - 1; print (digits (!r)); count ()) val x = count () val y = r",
    "val a = (ref [] : (int -> int) list ref) val _ = a := (fn x => x + 1) :: !a val b = case !a of f :: _ => f 1 | [] => 0 val c = ref (ref 1) val _ = !c := 7 val d = (c, !c)",
    "fun f n = if n = 0 then raise Subscript else f (n - 1) val x = f 50 handle Overflow => 1 | Subscript => 2 val y = f 3",
    "fun p s = (print s; s) val x = p \"a\" ^ p \"b\" val y = (p \"c\", p \"d\", (fn _ => p \"e\") (p \"f\")) val z = code (x, 5)",
    "fun grow s = grow (s ^ s ^ \"a\") val x = grow \"b\" handle Size => \"big\" val y = size x fun f n = f (n * n) val z = f 3 handle Overflow => 0",
)


class Whole(unittest.TestCase):
    def compiled(self, program):
        code, info = compile_program(program)
        self.assertTrue(is_sound(code))
        self.assertEqual(read_code(write_code(code)), code)
        bindings, _ = check(program)
        self.assertEqual(tuple((name, scheme) for name, scheme, _, _, _ in info[0]), bindings)
        return code, info

    def agrees(self, program, fuels=FUELS, sizes=SIZES):
        code, info = self.compiled(program)
        for fuel in fuels:
            wanted = run(program, fuel)
            for young, limit in sizes:
                found = run_code(code, info, fuel, young, limit)
                self.assertTrue(agree(wanted, found), (program, fuel, young, limit, wanted, found))
                self.assertNotEqual(found[1], STUCK)

    def test_programs(self):
        for text in PROGRAMS + MORE_PROGRAMS:
            with self.subTest(text):
                self.agrees(parse(text))

    def test_programs_that_end(self):
        """With enough fuel the runs are equal."""
        for text in MORE_PROGRAMS:
            program = parse(text)
            code, info = self.compiled(program)
            wanted = run(program, 20000)
            self.assertIn(wanted[1][0], ("done", "raised"))
            self.assertEqual(run_code(code, info, 400000, 3, 5), wanted)

    def test_all_runs(self):
        """The runs of the tree, the core, the normal form, the functions and the code."""
        for text in PROGRAMS + MORE_PROGRAMS:
            program = parse(text)
            core = elaborate(program)
            self.assertTrue(is_typed(core))
            for unit in (normalize(core), optimize(normalize(core))):
                functions = convert(unit)
                code, info = compile_program(program)
                for fuel in (0, 3, 11, 500):
                    runs = [run(program, fuel), run_core(core, fuel), run_normal(unit, fuel), run_functions(functions, unit[1], fuel), run_code(code, info, fuel, 4, 4)]
                    for one in runs:
                        for other in runs:
                            self.assertTrue(agree(one, other), (text, fuel, one, other))
                    self.assertEqual(runs[2], runs[3])

    def test_random_programs(self):
        count = 0
        for seed in range(1000, 1120):
            writer = Writer(random.Random(seed))
            program = writer.program(writer.random.randint(1, 6), writer.random.randint(1, 4))
            try:
                check(program)
            except errors.CheckError:
                continue
            count += 1
            with self.subTest(seed):
                self.agrees(program, (0, 1, 4, 20, 20000), SIZES[1:5])
        self.assertGreater(count, 80)

    def test_random_modules(self):
        for seed in range(200, 280):
            try:
                program = parse(ModuleWriter(random.Random(seed)).program())
            except errors.LimitError:
                continue
            with self.subTest(seed):
                self.agrees(program, (0, 3, 2000), SIZES[1:4])

    def test_long_runs(self):
        deep = parse("fun f n = if n = 0 then 0 else 1 + f (n - 1) val x = f 6000")
        code, info = self.compiled(deep)
        self.assertEqual(run_code(code, info, 400000, 9, 9)[1], FULL)
        self.assertEqual(run_code(code, info, 3000, 9, 9)[1], MORE)
        loop = parse("fun f (n, a) = if n = 0 then a else f (n - 1, a + n) val x = f (6000, 0)")
        code, info = self.compiled(loop)
        for young, limit in ((1, 1), (10, 60), (1000, 1)):
            self.assertEqual(run_code(code, info, 400000, young, limit), ((), ("done", (("f", ("fn",)), ("x", ("int", 18003000))))))
        self.agrees(loop, (100, 5000, 20000), SIZES[:3])

    def test_references_and_strings(self):
        for times, end in ((1000, "done"), (1001, "full")):
            program = parse(f"fun f n = if n = 0 then () else (ref n; f (n - 1)) val x = f {times}")
            code, info = self.compiled(program)
            self.assertEqual(run(program, 20000)[1][0], end)
            for young in (1, 30, 1000):
                self.assertEqual(run_code(code, info, 400000, young, 5)[1][0], end)
        for times, end in ((200, "done"), (201, "full")):
            program = parse(f"fun f n = if n = 0 then () else (print \"a\"; f (n - 1)) val x = f {times}")
            code, info = self.compiled(program)
            self.assertEqual(run(program, 20000)[1][0], end)
            outputs, found = run_code(code, info, 400000, 3, 5)
            self.assertEqual((outputs, found[0]), (("a",) * 200, end))

    def test_values_in_the_heap(self):
        """Lists, trees and references that live through many collections."""
        text = "fun range n = if n = 0 then [] else n :: range (n - 1) fun rev (a, []) = a | rev (a, x :: r) = rev (x :: a, r) " \
               "fun loop (0, l) = l | loop (n, l) = loop (n - 1, rev ([], l)) val r = (ref [] : int list list ref) val _ = r := [range 3] val x = loop (41, range 60) " \
               "val _ = r := range 2 :: !r val y = !r"
        program = parse(text)
        code, info = self.compiled(program)
        wanted = run(program, 20000)
        self.assertEqual(wanted[1][0], "done")
        for young in (1, 2, 3, 10, 100, 1000):
            for limit in (1, 10, 60, 1000):
                self.assertEqual(run_code(code, info, 400000, young, limit), wanted)

    def test_programs_that_are_refused(self):
        texts = ["val x = 1 " + text for text in (
            "val y = z", "val y = 1 + True", "val y = case 1 of 2 => 3", "val y = fn _ => 1 | _ => 2", "val y = 2000000001",
            "structure S : sig val a : int end = struct end", "open S", "val y = fn x => x x", "datatype t = A | A", "val y = !(ref []) : 'a list",
            "functor F (X : sig val a : int end) = struct end structure S = F (struct end)")]
        texts += [f"val x = {reason}" for reason in test_define.Stuck.REASONS]
        refused = 0
        for text in texts:
            program = parse(text)
            try:
                check(program)
            except errors.GuanacoError as error:
                refused += 1
                with self.assertRaises(type(error)) as caught:
                    compile_program(program)
                self.assertEqual(vars(caught.exception), vars(error))
        self.assertGreater(refused, 12)
        large = "functor G0 (X : sig end) = struct val x = (1, 1, 1, 1, 1, 1) end " + " ".join(
            f"functor G{k} (X : sig end) = struct structure A = G{k - 1} (X) structure B = G{k - 1} (X) end" for k in range(1, 12)) + " structure S = G11 (struct end)"
        with self.assertRaises(errors.LimitError):
            compile_program(parse(large))

    def test_shown_exceptions(self):
        program = parse("exception E of int * string val x = E (1, \"a\") val f = fn n => raise E (n, \"b\") val y = f 2")
        self.assertEqual(run_code(*self.compiled(program), 100, 1, 1), ((), ("raised", "E", ("tuple", (("int", 2), ("string", "b"))))))


if __name__ == "__main__":
    unittest.main()
