"""Elaboration (points 90 and 91, and 65 and 67 where it meets functors)."""

import random
import unittest

from guanaco import errors
from guanaco.checker import check, check_with
from guanaco.compiler import compile_program
from guanaco.core import is_formed, measure_core
from guanaco.core_trees import children, types_of
from guanaco.corerun import run_core
from guanaco.define import run
from guanaco.elaborate import elaborate, elaborate_with
from guanaco.expansion import expanded_size
from guanaco.judge import is_typed
from guanaco.parser import parse
from module_programs import ModuleWriter
from programs import Writer
from running import agree
from test_define import Stuck

INT = ("con", "int", ())
STRING = ("con", "string", ())
A = ("var", "a")
FUELS = (0, 1, 2, 3, 5, 8, 13, 30, 100, 2000)
PROGRAMS = (
    "", "val x = 1", "val _ = print \"a\"", "val f = fn x => x val y = (f 1, f \"a\", f f)",
    "fun f x = x and g x = f x val y = g 1 val z = g \"a\"", "fun f x = g x and g x = f x val h = f",
    "val (a, b) = (fn x => x, fn (x, y) => x) val c = (a 1, a (), b (1, 2), b (\"\", a))",
    "datatype 'a b = B of 'a val (B (f, B g), h) = (B (fn x => x, B (fn y => [y])), []) val z = (f 1, f h, g 2, g f)",
    "val r = ref [] val _ = r := [] val x = !r", "val p = (plus, minus) val (f, g) = p val x = f (1, g (2, 3))",
    "val x = (fn f => f (1, 2)) times val y = let val p = (3, 4) in plus p end val z = negate val w = z 2",
    "val c = Cons val l = c (1, []) val s = (fn k => k (3, [])) Cons handle Overflow => []",
    "exception E of int val e = E val x = (raise e 3) handle E n => n + 1 val y = [e 1, Div, E 2]",
    "fun f 0 = \"a\" | f 1 = \"b\" | f ~1 = \"c\" | f _ = \"d\" val x = (f 0, f 1, f ~1, f 7)",
    "fun f \"\" = 0 | f \"a\" = 1 | f s = size s val x = (f \"\", f \"a\", f \"abc\")",
    "fun zip ([], _) = [] | zip (_, []) = [] | zip (x :: r, y :: s) = (x, y) :: zip (r, s) "
    "val x = zip ([1, 2, 3], [\"a\", \"b\"]) val y = zip ([], [()])",
    "fun f (1, \"a\", True) = 1 | f (1, \"a\", _) = 2 | f (1, _, True) = 3 | f (_, \"a\", True) = 4 | f (n, s, b) = n + size s "
    "val x = (f (1, \"a\", True), f (1, \"a\", False), f (1, \"b\", True), f (2, \"a\", True), f (2, \"bc\", False))",
    "datatype t = A | B of t * t | C of int list fun f (B (A, B (x, C [1, n]))) = n | f (B (B (A, _), C (2 :: _))) = 2 "
    "| f (B (x, y)) = f x + f y | f (C l) = (case l of [] => 10 | n :: _ => n) | f A = 0 "
    "val x = [f (B (A, B (A, C [1, 9]))), f (B (B (A, A), C [2, 3])), f (B (C [], C [5])), f A]",
    "exception E exception F of int * string fun f g = g () handle E => 1 | F (1, _) => 2 | F (_, \"a\") => 3 | Div => 4 "
    "val x = [f (fn () => raise E), f (fn () => raise F (1, \"\")), f (fn () => raise F (2, \"a\")), f (fn () => 1 div 0)] "
    "val y = f (fn () => raise F (5, \"b\"))",
    "val x = (raise Div) handle e => (case e of Size => 1 | Div => 2 | _ => 3) val y = (raise Size) handle _ => 4",
    "fun f n = (if n = 0 then raise Div else f (n - 1)) handle Div => n | e => raise e val x = f 5",
    "fun make _ = let exception E of int in (fn n => ((raise E n) : int), fn g => g () handle E n => n | _ => 99) end "
    "val (r, h) = make () val (s, i) = make () val x = (h (fn () => r 1), i (fn () => s 2), h (fn () => s 3), i (fn () => r 4))",
    "val x = let val f = fn x => x val g = fn y => let val h = f in (h f y, y) end in (g 1, g \"a\", f f) end",
    "fun outer x = let fun inner y = (x, y) val k = fn z => (inner z, inner 1) in k x end val a = outer 1 val b = outer \"s\"",
    "val x = True andalso (False orelse 1 < 2) val y = if x then print \"y\" else print \"n\"",
    "val x = (print \"a\"; print \"b\"; 3) val x = x + 1 fun x y = y val z = x 1",
    "structure S = struct val x = 1 val x = x + 1 fun f y = (x, y) structure T = struct val z = f \"a\" end end "
    "open S val y = (f (), T.z, S.T.z, x) open T val w = z",
    "structure S :> sig type 'a t val mk : 'a -> 'a t val un : 'a t -> 'a end "
    "= struct type 'a t = 'a * int fun mk x = (x, 1) fun un (x, _) = x end val a = S.mk 1 val b = S.un (S.mk \"a\") val c = [S.mk b]",
    "structure S :> sig type 'a t val mk : 'a -> 'a t val both : 'a t * 'a t -> 'a t end "
    "= struct type 'a t = int fun mk x = 5 fun both (x, y) = x + y end "
    "val f = (fn g => g) (fn a => if True then S.mk a else S.mk 1) val q = f 5 val z = S.both (S.mk \"a\", S.mk \"b\")",
    "structure S :> sig datatype d = A | B of d e and 'a e = C of 'a val f : d -> d end "
    "= struct datatype d = A | B of d e and 'a e = C of 'a fun f x = B (C x) end "
    "val x = S.f S.A val y = case x of S.A => 1 | S.B (S.C S.A) => 2 | S.B (S.C (S.B _)) => 3",
    "structure S : sig type t val x : t -> t val y : int list exception E of t end "
    "= struct type t = int fun x a = a val y = [] exception E of int val z = 0 end val a = S.x 3 :: S.y val b = (raise S.E 4) handle S.E n => n",
    "signature G = sig type t val zero : t val show : t -> string end "
    "structure I : G = struct type t = int val zero = 0 val show = digits end structure J :> G where type t = string "
    "= struct type t = string val zero = \"z\" fun show x = x end val x = I.show (I.zero + 1) val y = J.zero ^ \"a\"",
    "functor F (X : sig type t val x : t val f : 'a -> 'a * t end) = struct datatype d = D of X.t | N exception E of d "
    "val a = X.f (D X.x) val b = X.f 1 fun un (D y) = y | un N = X.x end "
    "structure P = F (struct type t = int val x = 3 fun f y = (y, 4) val g = 0 end) "
    "structure Q = F (struct type t = P.d val x = P.N fun f y = (y, P.D 1) end) "
    "val x = (P.a, P.b, Q.a, Q.b, P.un P.N + 1) val y = (raise P.E (P.D 2)) handle Q.E _ => 1 | P.E (P.D n) => n | P.E P.N => 0",
    "functor F (X : sig type t val x : t end) = struct structure S :> sig type u val mk : X.t -> u val un : u -> X.t end "
    "= struct type u = X.t * X.t fun mk a = (a, a) fun un (a, _) = a end val y = S.mk X.x end "
    "functor G (X : sig type t val x : t end) = struct structure A = F (X) structure B = F (struct type t = A.S.u val x = A.y end) "
    "val z = A.S.un (B.S.un B.y) end structure T = G (struct type t = int val x = 7 end) "
    "structure U = G (struct type t = T.B.S.u val x = T.B.y end) val a = (T.z, T.B.y, U.z, U.A.y)",
    "functor F (X : sig exception E of int structure Y : sig val g : int -> int end end) = struct open X open Y "
    "fun h n = g n handle E m => m * 10 exception E val k = E end "
    "structure A = F (struct exception E of int structure Y = struct fun g n = raise E n end end) val x = A.h 4 val y = A.k",
    "functor F (X : sig datatype 'a d = L | R of 'a * 'a d val n : int d end) = struct fun len X.L = 0 | len (X.R (_, r)) = 1 + len r "
    "val m = (len X.n, X.R (\"a\", X.L)) end "
    "structure S = F (struct datatype 'a d = L | R of 'a * 'a d val n = R (5, R (6, L)) end) val x = S.m",
    "signature G = sig structure A : sig type t val x : t end structure B : sig val f : int -> int end end "
    "functor F (X : G) = struct structure Z = X.A val y = [Z.x, X.A.x] val w = X.B.f 1 end "
    "structure S = F (struct structure A = struct type t = string val x = \"q\" end structure B = struct fun f x = x end end) val a = S.y",
    "functor F (X : sig end) = struct val r = ref 0 fun next _ = (r := !r + 1; !r) end structure A = F (struct end) structure B = F (struct end) "
    "val x = (A.next (), A.next (), B.next ())",
    "functor Id (X : sig val f : int -> int end) = X structure P = Id (struct fun f x = x end) val y = P.f 3",
    "fun loop n = loop (n + 1) val x = loop 0", "fun f n = 1 + f n val x = f 0", "val r = ref 0 fun f n = (ref n; f (n + 1)) val x = f 0",
    "fun f n = (print (digits n); f (n + 1)) val x = f 0", "exception E of int * string val x = raise E (1, \"a\")",
    "val x = \"a\" ^ digits (1 div 0)", "val r = ref (fn x => x + 0) val _ = r := (fn n => n + 1) val x = !r 3",
    "fun f (x, y) (a, b) = (x + a, y ^ b) val g = f (1, \"a\") val x = g (2, \"b\") val h = fn x => (x : int)",
    "exception E of int list fun f () = raise E [1] val x = f () handle E [n] => n | E _ => 0",
    "datatype t = T of t ref | N val r = ref N val _ = r := T r val x = case !r of T s => (case !s of T _ => 1 | N => 2) | N => 3",
    "val x = case (1, (2, 3)) of (a, (b, c)) => a + b * c val y = case [] of [] => 1 | (x :: _) => x val z = case () of () => 2",
    "val (x, _) = (1, print \"a\") val _ = (print \"b\", fn z => z) val () = print \"c\"",
)


class Agreement(unittest.TestCase):
    def elaborated(self, program):
        core = elaborate(program)
        self.assertTrue(is_formed(core), program)
        self.assertTrue(is_typed(core), program)
        bindings, data = check(program)
        self.assertEqual(tuple((name, scheme) for name, scheme, _, _, _ in core[2]), bindings)
        self.assertLessEqual({entry[0] for entry in core[0]}, {entry[0] for entry in data})
        return core

    def agrees(self, program, fuels=FUELS):
        core = self.elaborated(program)
        size = expanded_size(program)
        for fuel in fuels:
            wanted = run(program, fuel)
            self.assertNotEqual(wanted[1], ("stuck",), program)
            self.assertTrue(agree(wanted, run_core(core, fuel)), (program, fuel))
            enough = run_core(core, min(400000, 2 * size * (fuel + 1)))
            self.assertTrue(agree(wanted, enough), (program, fuel))
            if wanted[1] != ("more",):
                self.assertNotEqual(enough[1], ("more",), (program, fuel))
            if wanted[1] == ("full",):
                self.assertEqual(enough, wanted)

    def test_programs(self):
        for text in PROGRAMS:
            with self.subTest(text):
                self.agrees(parse(text))

    def test_random_programs(self):
        count = 0
        for seed in range(150):
            writer = Writer(random.Random(seed))
            program = writer.program(writer.random.randint(1, 6), writer.random.randint(1, 4))
            try:
                check(program)
            except errors.CheckError:
                continue
            count += 1
            with self.subTest(seed):
                self.agrees(program, (0, 1, 4, 20, 20000))
        self.assertGreater(count, 100)

    def test_random_modules(self):
        applied = 0
        for seed in range(150):
            text = ModuleWriter(random.Random(seed)).program()
            try:
                program = parse(text)
            except errors.LimitError:
                continue
            applied += "structure A" in text
            with self.subTest(text):
                self.agrees(program, (0, 3, 2000))
        self.assertGreater(applied, 50)

    def test_errors(self):
        texts = ["val x = 1 " + text for text in (
            "val y = z", "val y = 1 + True", "val y = case 1 of 2 => 3", "val y = fn _ => 1 | _ => 2", "val y = 2000000001",
            "structure S : sig val a : int end = struct end", "open S", "val y = fn x => x x",
            "functor F (X : sig val a : int end) = struct val b = X.a ^ \"\" end",
            "functor F (X : sig val a : int end) = struct end structure S = F (struct end)")]
        for text in texts + [f"val x = {reason}" for reason in Stuck.REASONS]:
            with self.subTest(text):
                try:
                    check(parse(text))
                except errors.GuanacoError as error:
                    with self.assertRaises(type(error)) as caught:
                        elaborate(parse(text))
                    self.assertEqual(vars(caught.exception), vars(error))

    def test_expanded_size(self):
        def doubled(count):
            text = "functor G0 (X : sig end) = struct val x = (1, 1, 1, 1, 1, 1) end "
            for k in range(1, count):
                text += f"functor G{k} (X : sig end) = struct structure A = G{k - 1} (X) structure B = G{k - 1} (X) end "
            return parse(text + f"structure S = G{count - 1} (struct end) val y = S" + ".A" * (count - 1) + ".x")
        self.agrees(doubled(6), (0, 5))
        for function in (check, elaborate):
            with self.assertRaises(errors.LimitError):
                function(doubled(12))

    def test_large_types(self):
        """Both raise the same for types whose nodes are more than 3000."""
        text = "fun pair x = (x, x) val x = (" + "pair (" * 13 + "1" + ")" * 13 + "; 1)"
        answers = []
        for function in (check, elaborate):
            try:
                function(parse(text))
                answers.append(None)
            except errors.Mismatch as error:
                answers.append(error.number)
        self.assertEqual(answers[0], answers[1])
        self.agrees(parse("fun pair x = (x, x) val x = (" + "pair (" * 6 + "1" + ")" * 6 + "; 1)"), (0, 9))

    def test_hidden_types_that_stand_for_large_ones(self):
        text = "structure S0 :> sig type t val x : t end = struct type t = int * int val x = (1, 2) end "
        for k in range(1, 8):
            text += f"structure S{k} :> sig type t val x : t end = struct type t = S{k - 1}.t * S{k - 1}.t val x = (S{k - 1}.x, S{k - 1}.x) end "
        self.agrees(parse(text + "val y = S7.x"), (0,))

    def test_types_that_stand_for_far_too_large_ones(self):
        """Where they can not be written out, all refuse the same declaration (point 29)."""
        def sealed(k):
            return f"structure S{k} :> sig type t val f : t -> t end = struct type t = S{k - 1}.t * S{k - 1}.t fun f x = x end "
        hidden = "structure S0 :> sig type t val f : t -> t end = struct type t = int * int fun f x = x end " + "".join(sealed(k) for k in range(1, 25))
        double = "structure S :> sig type 'a t val f : 'a -> 'a end = struct type 'a t = 'a * 'a fun f x = x end "
        functor = "functor F (X : sig type a type b end) = struct structure T :> sig type c val f : c -> c end = struct type c = X.a * X.a * X.b fun f x = x end end " \
                  "structure A0 = F (struct type a = int type b = int end) "
        functor += "".join(f"structure A{k} = F (struct type a = A{k - 1}.T.c type b = unit end) " for k in range(1, 20))
        for text, most in ((hidden + "val x = 1", 17), (double + "val y = 1 datatype d = D of int" + " S.t" * 20 + " val x = 1", 2),
                           (double + "exception E of int" + " S.t" * 20 + " val x = 1", 1), (double + "val f = fn x => let exception E of int" + " S.t" * 20 + " in x end", 1),
                           (functor + "val x = 1", 17)):
            program = parse(text)
            numbers = []
            for function in (check, elaborate, compile_program):
                try:
                    function(program)
                    numbers.append(None)
                except errors.CheckError as error:
                    numbers.append((type(error), error.number))
            self.assertEqual(numbers, numbers[:1] * 3, text)
            self.assertEqual(numbers[0][0], errors.Mismatch)
            self.assertLessEqual(numbers[0][1], most)

    def test_types_that_are_just_small_enough(self):
        double = "structure S :> sig type 'a t val f : 'a -> 'a end = struct type 'a t = 'a * 'a fun f x = x end "
        self.agrees(parse(double + "datatype d = D of int" + " S.t" * 10 + " | N val x = N"), (0,))


class Cores(unittest.TestCase):
    def test_types_without_constructors_do_not_occur(self):
        for text in PROGRAMS:
            core = elaborate(parse(text))
            names = {entry[0] for entry in core[0]} | {"int", "string", "exn", "ref"}
            found = [ty for _, _, constructors in core[0] for _, ty in constructors if ty is not None]
            work = list(core[1])
            while work:
                tree = work.pop()
                work.extend(children(tree))
                found.extend(types_of(tree))
            while found:
                ty = found.pop()
                if ty[0] == "con":
                    self.assertIn(ty[1], names)
                    found.extend(ty[2])
                elif ty[0] != "var":
                    found.extend(ty[1:] if ty[0] == "fun" else ty[1])

    def test_data_that_occur(self):
        core = elaborate(parse("datatype t = A of u and u = B datatype v = C val x = [A B]"))
        self.assertEqual([entry[0] for entry in core[0]], ["bool", "list", "t.1", "u.2"])
        self.assertEqual(core[0][2:], check(parse("datatype t = A of u and u = B datatype v = C val x = [A B]"))[1][2:4])

    def test_data_that_occur_in_one_place(self):
        types = "datatype a = A datatype b = B of c and c = C of a datatype d = D "
        for text, wanted in (("exception E of b", "abc"), ("val f = fn x => (x : a)", "a"), ("fun f x = raise Div val y = f (D : d)", "d"),
                             ("val x = []", ""), ("val f = fn x => (x : a list)", "a"), ("val f = fn x => (x : int -> d)", "d"), ("val x = (fn x => 1) ((raise Div) : b)", "abc"), ("val x = (A; 1)", "a"), ("val x = 1", "")):
            names = [entry[0][0] for entry in elaborate(parse(types + text))[0][2:]]
            self.assertEqual("".join(names), wanted, text)

    def test_shown(self):
        core = elaborate(parse("val x = 1 fun f y = y val x = (\"a\", f)"))
        name, scheme, x, letters, ty = core[2][0]
        self.assertEqual((name, scheme, len(letters)), ("f", (("a",), ("fun", A, A)), 1))
        self.assertEqual(ty, ("fun", ("var", letters[0]), ("var", letters[0])))
        self.assertTrue(x.startswith("f."))
        self.assertEqual([row[0] for row in core[2]], ["f", "x"])
        hidden = elaborate(parse("structure S :> sig type t val a : t end = struct type t = int val a = 1 end val x = S.a"))
        self.assertEqual(hidden[2][0][1], ((), ("con", "t.2", ())))
        self.assertEqual(hidden[2][0][3:], ((), INT))

    def test_each_application_has_its_own(self):
        text = "functor F (X : sig end) = struct datatype d = D exception E val x = (D, E) end " \
               "structure S = F (struct end) structure T = F (struct end) val a = S.x val b = T.x"
        core = elaborate(parse(text))
        self.assertEqual(len(core[0]), 4)
        self.assertEqual(len([row for row in core[1] if row[0] == "exception"]), 2)
        self.assertNotEqual(core[2][0][4], core[2][1][4])

    def test_the_size_is_in_line(self):
        """A match does not copy the bodies of its rules."""
        rows = " | ".join(f"f ({k}, {k}, x :: [])" + " = " + "(1, 2, 3, 4, 5, 6)" for k in range(12))
        core = elaborate(parse(f"fun {rows} | f _ = (0, 0, 0, 0, 0, 0)"))
        self.assertLess(measure_core(core), 450)


class Given(unittest.TestCase):
    STRUCTURES = (
        ("A", (("x", ((), INT)), ("id", (("a",), ("fun", A, A))), ("pair", (("a", "b"), ("fun", A, ("fun", ("var", "b"), ("tuple", (A, ("var", "b"))))))))),
        ("B", (("x", ((), STRING)), ("none", (("a",), ("con", "list", (A,)))))),
    )

    def uses(self, text):
        """The variables of given structures that the core of a program uses, with their types."""
        core = elaborate_with(parse(text), self.STRUCTURES)
        self.assertTrue(is_formed(core))
        bindings = check_with(parse(text), self.STRUCTURES)[0]
        self.assertEqual(tuple((name, scheme) for name, scheme, _, _, _ in core[2]), bindings)
        found = []
        work = list(core[1])
        while work:
            tree = work.pop()
            if tree[0] == "var" and tree[1][0] in "AB":
                found.append((tree[1], tree[2]))
            work.extend(children(tree))
        return sorted(found)

    def test_uses(self):
        self.assertEqual(self.uses("val y = A.x + 1"), [("A.x", ())])
        self.assertEqual(self.uses("val y = (A.id A.x, A.id B.x)"), [("A.id", (INT,)), ("A.id", (STRING,)), ("A.x", ()), ("B.x", ())])
        self.assertEqual(self.uses("val y = A.pair 1 \"a\""), [("A.pair", (INT, STRING))])
        self.assertEqual(self.uses("val x = 2"), [])
        self.assertEqual(self.uses("open A open B val y = (x, id none : int list)"),
                         [("A.id", (("con", "list", (INT,)),)), ("B.none", (INT,)), ("B.x", ())])
        self.assertEqual(self.uses("structure C : sig val id : int -> int end = A val y = C.id 1"), [("A.id", (INT,))])
        self.assertEqual(self.uses("functor F (X : sig val x : int end) = struct val z = X.x end structure D = F (A) val y = D.z"), [("A.x", ())])
        self.assertEqual(len(self.uses("val f = fn z => A.pair z z")), 1)

    def test_errors(self):
        for text, error in (("val y = A.y", errors.ScopeError), ("val y = C.x", errors.ScopeError), ("val y = A.x ^ \"\"", errors.Mismatch),
                            ("structure S : sig val x : string end = A", errors.SignatureError), ("val y = A.X", errors.ScopeError)):
            with self.assertRaises(error):
                elaborate_with(parse(text), self.STRUCTURES)

    def test_typed_behind_their_values(self):
        """With declarations of the given values ahead of it the core is typed and runs."""
        core = elaborate_with(parse("val y = (A.id A.x, A.id B.x, A.pair A.x)"), self.STRUCTURES)
        values = (
            ("let", "A.x", (), INT, ("int", 4)), ("let", "B.x", (), STRING, ("string", "b")),
            ("let", "A.id", ("a",), ("fun", A, A), ("fn", "v.1001", A, ("var", "v.1001", ()))),
            ("let", "A.pair", ("a", "b"), self.STRUCTURES[0][1][2][1][1], ("fn", "v.1002", A, ("fn", "v.1003", ("var", "b"), (
                "tuple", (("var", "v.1002", ()), ("var", "v.1003", ())))))),
        )
        whole = (core[0], values + core[1], core[2])
        self.assertTrue(is_typed(whole))
        self.assertFalse(is_typed(core))
        self.assertEqual(run_core(whole, 9)[1][1][0][1], ("tuple", (("int", 4), ("string", "b"), ("fn",))))
        self.assertEqual(run_core(core, 9)[1], ("stuck",))


if __name__ == "__main__":
    unittest.main()
