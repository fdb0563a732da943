"""Structures, signatures, seals and functors (points 60 to 67)."""

import unittest

from checking import CheckTests, bindings_of, data_of
from guanaco.checker import check
from guanaco.errors import LimitError, Mismatch, ScopeError, SignatureError
from guanaco.parser import parse


class Matching(CheckTests):
    def seals(self, good, specification, *structures):
        """Sealing each struct by the specification is right, or wrong, for both kinds of seals and for a functor."""
        for inner in structures:
            for text in (f"structure S : sig {specification} end = struct {inner} end",
                         f"structure S :> sig {specification} end = struct {inner} end",
                         f"functor F (X : sig {specification} end) = struct end structure S = F (struct {inner} end)",
                         f"structure R = struct structure T = struct {inner} end end signature G = sig {specification} end "
                         f"structure S = R : sig structure T : G end"):
                number = len(parse(text)) - 1
                if good:
                    self.accepts(text)
                else:
                    self.rejects(SignatureError, number, text)

    def test_values(self):
        self.seals(True, "", "", "val x = 1")
        self.seals(True, "val x : int", "val x = 1", "val x = True val x = 1", "val y = 1 val (z, x) = (2, 3)", "fun x' y = y val x = 1",
                   "val x = let in 1 end")
        self.seals(False, "val x : int", "", "val x = True", "val y = 1", "val x = 1 val x = True", "exception X", "type x = int",
                   "structure X = struct val x = 1 end")
        self.seals(True, "val f : int -> int", "fun f x = x", "fun f x = x + 1", "val f = fn _ => 1")
        self.seals(False, "val f : int -> int", "fun f x = True", "fun f (x, y) = 1", "val f = 1")
        self.seals(True, "val f : 'a -> 'a", "fun f x = x", "val f = fn x => x", "fun f x = raise Div")
        self.seals(False, "val f : 'a -> 'a", "fun f x = x + 1", "val r = ref [] fun f x = (r := [x]; x)")
        self.seals(True, "val f : 'a -> 'b -> 'a", "fun f x y = x", "fun f x = fn _ => x")
        self.seals(False, "val f : 'a -> 'b -> 'a", "fun f x y = if True then x else y", "fun f x y = y")
        self.seals(True, "val f : 'b * 'a -> 'a * 'b", "fun f (x, y) = (y, x)")
        self.seals(True, "val x : 'a list", "val x = []")
        self.seals(False, "val x : 'a list", "val x = [1]", "fun id x = x val x = id []")
        self.seals(True, "val x : unit list", "fun id x = x val x = id []")

    def test_types(self):
        self.seals(True, "type t", "type t = int", "datatype t = A", "type t = int type t = bool", "type t = unit")
        self.seals(False, "type t", "", "type 'a t = int", "datatype 'a t = A", "val t = 1", "type u = int")
        self.seals(True, "type 'a t", "type 'a t = 'a", "type 'b t = int", "datatype 'a t = A of 'a")
        self.seals(False, "type 'a t", "type t = int", "type ('a, 'b) t = 'a")
        self.seals(True, "type t val x : t", "type t = int val x = 1", "datatype t = A val x = A")
        self.seals(False, "type t val x : t", "type t = int val x = True", "datatype t = A val x = 1", "datatype t = A val x = A datatype t = A")
        self.seals(True, "type 'a t val x : int t val f : 'a t -> 'a", "type 'a t = 'a list val x = [1] fun f (y :: _) = y | f [] = raise Div")
        self.seals(False, "type 'a t val x : int t", "type 'a t = 'a list val x = [True]", "type 'a t = int val x = True")
        self.seals(True, "type t type u val f : t -> u", "type t = int type u = int fun f x = x", "type t = int datatype u = A of int val f = A")

    def test_types_with_a_meaning(self):
        self.seals(True, "type t = int", "type t = int", "type u = int type t = u")
        self.seals(False, "type t = int", "type t = bool", "datatype t = A", "", "type 'a t = int")
        self.seals(True, "type 'a t = 'a * 'a", "type 'b t = 'b * 'b", "type 'a p = 'a * 'a type 'c t = 'c p")
        self.seals(False, "type 'a t = 'a * 'a", "type 'a t = 'a * int", "type 'a t = int * int", "type t = int * int")
        self.seals(True, "type ('a, 'b) t = 'b -> 'a", "type ('b, 'a) t = 'a -> 'b")
        self.seals(False, "type ('a, 'b) t = 'b -> 'a", "type ('a, 'b) t = 'a -> 'b")
        self.seals(True, "type t type u = t list", "type t = int type u = int list", "datatype t = A type u = t list")
        self.seals(False, "type t type u = t list", "type t = int type u = bool list", "datatype t = A type u = t")

    def test_data_types(self):
        self.seals(True, "datatype t = A | B of int", "datatype t = A | B of int", "datatype u = A | B of int type t = u",
                   "type i = int datatype t = A | B of i", "datatype t = A | B of int val x = A")
        self.seals(False, "datatype t = A | B of int", "", "datatype t = A", "datatype t = B of int | A", "datatype t = A | B of bool",
                   "datatype t = A | B", "datatype t = A of int | B of int", "datatype t = A | B of int | C", "type t = int",
                   "datatype 'a t = A | B of int", "datatype t = A | B of int datatype u = A", "datatype t = A | B of int exception B of int",
                   "datatype u = A | B of int", "datatype t = A | C of int")
        self.seals(True, "datatype 'a t = A of 'a", "datatype 'b t = A of 'b", "datatype 'b u = A of 'b type 'c t = 'c u")
        self.seals(False, "datatype 'a t = A of 'a", "datatype 'a t = A of int", "datatype 'a u = A of 'a type 'a t = 'a list u",
                   "datatype t = A of int", "datatype 'a u = A of 'a type 'a t = int u")
        self.seals(True, "datatype ('a, 'b) t = A of 'a * 'b", "datatype ('b, 'a) t = A of 'b * 'a")
        self.seals(False, "datatype ('a, 'b) t = A of 'a * 'b", "datatype ('a, 'b) t = A of 'b * 'a",
                   "datatype ('a, 'b) u = A of 'a * 'b type ('a, 'b) t = ('b, 'a) u")
        self.seals(True, "type t datatype u = A of t", "type t = int datatype u = A of int", "datatype t = B datatype u = A of t")
        self.seals(False, "type t datatype u = A of t", "type t = int datatype u = A of bool")
        self.seals(True, "datatype t = A of u and u = B of t", "datatype t = A of u and u = B of t", "datatype u = B of t and t = A of u")
        self.seals(False, "datatype t = A of u and u = B of t", "datatype u = B of int datatype t = A of u")
        self.seals(False, "datatype b = False | True", "type b = bool", "datatype b = True | False")

    def test_exceptions(self):
        self.seals(True, "exception E", "exception E", "exception E of int exception E")
        self.seals(False, "exception E", "", "exception E of int", "datatype t = E", "exception F", "exception E exception E of int")
        self.seals(True, "exception E of int", "exception E of int", "type t = int exception E of t")
        self.seals(False, "exception E of int", "exception E", "exception E of bool", "datatype t = E of int")
        self.seals(True, "type t exception E of t", "type t = int exception E of int")
        self.seals(False, "type t exception E of t", "type t = int exception E of bool")

    def test_structures(self):
        self.seals(True, "structure T : sig val x : int end", "structure T = struct val x = 1 val y = 2 end")
        self.seals(False, "structure T : sig val x : int end", "", "structure T = struct end", "structure T = struct val x = True end", "val x = 1",
                   "structure U = struct val x = 1 end")
        self.seals(True, "structure T : sig type t end val x : T.t", "structure T = struct type t = int end val x = 1")
        self.seals(False, "structure T : sig type t end val x : T.t", "structure T = struct type t = int end val x = True",
                   "structure T = struct end val x = 1")
        self.seals(True, "structure A : sig type t end structure B : sig type t end val f : A.t -> B.t",
                   "structure A = struct type t = int end structure B = struct type t = bool end fun f 1 = True | f _ = False")


class Seals(CheckTests):
    def test_transparent(self):
        head = "structure S : sig type t val x : t datatype d = A type 'a u end = struct type t = int val x = 1 val h = 2 datatype d = A " \
               "type 'a u = 'a list end "
        self.assertEqual(bindings_of(head + "val y = S.x + 1"), {"y": "int"})
        self.assertEqual(bindings_of(head + "val y = (1 : S.t, [1] : int S.u, S.A)"), {"y": "int * int list * d"})
        self.rejects(ScopeError, 1, head + "val y = S.h")
        head = "structure R = struct datatype d = A | B end structure S : sig datatype d = A | B end = R "
        self.accepts(head + "val x = [R.A, S.B]", head + "fun f R.A = 1 | f S.B = 2")
        self.assertEqual(len(data_of(head)), 1)
        self.assertEqual(bindings_of("structure S : sig val f : int -> int end = struct fun f x = x end val g = S.f"), {"g": "int -> int"})
        self.rejects(Mismatch, 1, "structure S : sig val f : int -> int end = struct fun f x = x end val g = S.f True")
        self.assertEqual(bindings_of("structure S : sig val f : 'b -> 'c -> 'b end = struct fun f x y = x end val g = S.f"), {"g": "'a -> 'b -> 'a"})

    def test_opaque(self):
        head = "structure S :> sig type t val x : t val f : t -> int datatype d = A of t end = struct type t = int val x = 1 " \
               "fun f y = y + 1 datatype d = A of int end "
        self.assertEqual(bindings_of(head + "val y = (S.x, S.f S.x, S.A S.x)"), {"y": "t * int * d"})
        self.rejects(Mismatch, 1, head + "val y = S.x + 1", head + "val y = S.f 1", head + "val y = S.A 1", head + "val y = 1 : S.t")
        head = "structure R = struct datatype d = A | B end structure S :> sig datatype d = A | B end = R structure T :> sig datatype d = A | B end = R "
        self.rejects(Mismatch, 3, head + "val x = [R.A, S.A]", head + "val x = [S.A, T.A]", head + "fun f S.A = 1 | f T.B = 2")
        self.accepts(head + "fun f S.A = 1 | f S.B = 2 val x = f S.A")
        self.assertEqual(data_of(head), ["d = A B"] * 3)
        self.rejects(Mismatch, 2, "structure R = struct type t = int end structure S :> sig type t = R.t type u end = struct type t = int type u = int end "
                     "fun f x = (x : S.t, x : S.u)")
        self.accepts("structure S :> sig type t = int end = struct type t = int end val x = 1 : S.t",
                     "structure S :> sig type 'a t val x : int t end = struct type 'a t = 'a list val x = [1] end val y = [S.x, S.x]")
        self.rejects(Mismatch, 1, "structure S :> sig type 'a t val x : int t end = struct type 'a t = 'a list val x = [1] end val y = S.x : bool S.t")

    def test_seals_of_seals(self):
        self.rejects(SignatureError, 0, "structure S = struct val x = 1 end : sig end : sig val x : int end",
                     "structure S = struct type t = int val x = 1 end :> sig type t val x : t end : sig val x : int end")
        self.accepts("structure S = struct type t = int val x = 1 end : sig type t val x : t end : sig val x : int end",
                     "structure S :> sig type t end = struct type t = int end : sig type t end")

    def test_names_that_are_hidden(self):
        self.assertEqual(bindings_of("structure S = struct val x = 1 val x = True type t = int type t = bool end val y = S.x : S.t"), {"y": "bool"})
        self.assertEqual(bindings_of("structure S : sig structure T : sig val x : int end end = struct structure T = struct val x = 1 val y = 2 "
                                     "end end open S val z = T.x"), {"z": "int"})

    def test_signatures_are_looked_at_behind_their_structure(self):
        self.rejects(SignatureError, 1, "signature G = sig type t = int end structure S = struct type t = int end : G where type t = int",
                     "val x = 1 structure S : sig type t end where type t = bool = struct type t = int end")
        self.rejects(Mismatch, 1, "signature G = sig type t = int end structure S = struct val x = 1 + True end : G where type t = int")


class Wheres(CheckTests):
    def test_types_of_their_own(self):
        self.accepts("structure S : sig type t val x : t end where type t = int = struct type t = int val x = 1 end val y = S.x + 1",
                     "structure S :> sig type t val x : t end where type t = int = struct type t = int val x = 1 end val y = S.x + 1",
                     "signature G = sig type 'a t val x : int t end where type 'b t = 'b list structure S :> G = struct type 'a t = 'a list "
                     "val x = [1] end val y = 2 :: S.x",
                     "signature G = sig type t type u val f : t -> u end where type u = int where type t = bool structure S :> G = struct "
                     "type t = bool type u = int fun f True = 1 | f False = 2 end val x = S.f True + 1",
                     "signature G = sig structure A : sig type t val x : t end end where type A.t = int structure S :> G = struct structure A = "
                     "struct type t = int val x = 1 end end val y = S.A.x + 1",
                     "datatype t = A signature G = sig type t val x : t end where type t = t structure S :> G = struct type t = t val x = A end "
                     "fun f A = 1 val y = f S.x",
                     "signature G = sig type t datatype d = D of t end where type t = int structure S :> G = struct type t = int datatype d = D of int end "
                     "val y = S.D 1")
        self.rejects(SignatureError, 1, "signature G = sig type t end where type t = int structure S : G = struct type t = bool end",
                     "signature G = sig type t val x : t end where type t = int structure S : G = struct type t = int val x = True end")
        self.rejects(Mismatch, 2, "signature G = sig type t type u val x : u end where type t = int structure S :> G = struct type t = int type u = int "
                     "val x = 1 end val y = S.x + 1")

    def test_types_with_a_meaning(self):
        self.rejects(SignatureError, 0, "signature G = sig type t = int end where type t = int",
                     "signature G = sig datatype t = A end where type t = int", "signature G = sig type t end where type t = int where type t = int",
                     "signature G = sig type t type u = t end where type u = int",
                     "signature G = sig structure A : sig type t = int end end where type A.t = int",
                     "signature G = sig structure A : sig type t end structure B : sig type t = A.t end end where type B.t = int",
                     "functor F (X : sig type t = int end where type t = int) = struct end",
                     "signature G = sig structure A : sig type t end where type t = int end where type A.t = int")
        self.accepts("signature G = sig type t type u = t end where type t = int structure S : G = struct type t = int type u = int end")

    def test_declared_signatures(self):
        self.accepts("signature G = sig type t val x : t end structure S :> G where type t = int = struct type t = int val x = 1 end "
                     "structure T :> G = struct type t = bool val x = True end val y = S.x + 1",
                     "signature G = sig type t end signature H = sig structure A : G structure B : G end where type A.t = int "
                     "structure S : H = struct structure A = struct type t = int end structure B = struct type t = bool end end")


class Functors(CheckTests):
    HEAD = "signature G = sig type t val x : t val f : t -> t end functor F (X : G) = struct type u = X.t datatype d = D of X.t val y = X.f X.x " \
           "exception E of X.t end "

    def test_parameters(self):
        self.rejects(Mismatch, 0, "functor F (X : sig type t val x : t end) = struct val y = X.x + 1 end",
                     "functor F (X : sig val f : 'a -> 'a end) = struct val y = X.f 1 ^ X.f True end",
                     "functor F (X : sig type t type u val x : t end) = struct val y = X.x : X.u end")
        self.accepts("functor F (X : sig val f : 'a -> 'a end) = struct val y = (X.f 1, X.f True) end",
                     "functor F (X : sig type t = int val x : t end) = struct val y = X.x + 1 end",
                     "functor F (X : sig datatype t = A | B of int end) = struct fun f X.A = 1 | f (X.B n) = n end",
                     "functor F (X : sig structure A : sig type t val x : t end end) = struct open X val y = [A.x, X.A.x] end")
        self.rejects(SignatureError, 0, "functor F (X : sig type t end) : sig val x : int end = struct end",
                     "functor F (X : sig type t val x : t end) : sig val x : int end = struct val x = X.x end")

    def test_applications(self):
        first = "structure A = F (struct type t = int val x = 1 fun f y = y + 1 end) "
        self.assertEqual(bindings_of(self.HEAD + first + "val z = (A.y, A.D 2, A.E 3) : A.u * A.d * exn"), {"z": "int * d * exn"})
        second = "structure B = F (struct type t = bool val x = True fun f y = y end) "
        self.assertEqual(bindings_of(self.HEAD + first + second + "val z = (A.y, B.y)"), {"z": "int * bool"})
        self.rejects(Mismatch, 4, self.HEAD + first + second + "val z = [A.y, B.y]", self.HEAD + first + first.replace("A =", "C =")
                     + "val z = [A.D 1, C.D 1]", self.HEAD + first + second + "val z = B.D 1")
        self.accepts(self.HEAD + first + first.replace("A =", "C =") + "val z = [A.y, C.y]")
        self.rejects(SignatureError, 2, self.HEAD + "structure A = F (struct end)", self.HEAD + "structure A = F (struct type t = int val x = True "
                     "fun f y = y + 1 end)")
        self.rejects(Mismatch, 2, self.HEAD + "structure A = F (struct val z = 1 + True end)")

    def test_what_is_known_of_the_parameter(self):
        self.accepts("functor F (X : sig type t val x : t end) = struct structure Y = X end structure A = F (struct type t = int val x = 1 end) "
                     "val z = A.Y.x + 1",
                     "functor F (X : sig type t end) = struct type 'a p = 'a * X.t end structure A = F (struct type t = int end) "
                     "val z = (True, 1) : bool A.p",
                     "structure R = struct datatype d = A | B end functor F (X : sig datatype d = A | B end) = struct open X end structure S = F (R) "
                     "val z = [S.A, R.B]",
                     "functor F (X : sig type 'a t val e : 'a t end) = struct val x = (X.e : int X.t, X.e : bool X.t) end "
                     "structure S = F (struct type 'a t = 'a list val e = [] end) val z = case S.x of (a, b) => (1 :: a, True :: b)")
        self.rejects(Mismatch, 2, "functor F (X : sig type t val x : t end) :> sig type u val y : u end = struct type u = X.t val y = X.x end "
                     "structure A = F (struct type t = int val x = 1 end) val z = A.y + 1")

    def test_within_functors(self):
        self.accepts("functor F (X : sig type t end) = struct datatype d = D of X.t end functor H (X : sig type t end) = struct structure A = F (X) "
                     "structure B = F (struct type t = A.d end) end structure S = H (struct type t = int end) val z = S.B.D (S.A.D 1)")
        self.rejects(Mismatch, 2, "functor F (X : sig end) = struct datatype d = D end functor H (X : sig end) = struct structure A = F (X) structure B = F (X) end "
                     "structure S = struct structure T = H (struct end) val z = [T.A.D, T.B.D] end")
        self.rejects(Mismatch, 1, "functor F (X : sig end) = struct datatype d = D end functor H (X : sig end) = struct structure A = F (X) structure B = F (X) "
                     "val z = [A.D, B.D] end")

    def test_bodies_see_where_they_are_declared(self):
        self.assertEqual(bindings_of("val x = 1 functor F (X : sig end) = struct val y = x end val x = True structure S = F (struct end) "
                                     "val z = S.y"), {"x": "bool", "z": "int"})


class Data(CheckTests):
    def test_order(self):
        self.assertEqual(data_of("datatype t = A structure S = struct datatype u = B datatype v = C and w = D end datatype t = E"),
                         ["t = A", "u = B", "v = C", "w = D", "t = E"])

    def test_seals(self):
        self.assertEqual(data_of("structure S : sig type t datatype u = A end = struct datatype t = B datatype u = A end"), ["t = B", "u = A"])
        self.assertEqual(data_of("structure S :> sig type t datatype u = A of t type 'a v type w = int end = struct datatype t = B datatype u = A of t "
                                 "type 'z v = 'z type w = int end"), ["t = B", "u = A of t", "t =", "u = A of t", "a v ="])
        self.assertEqual(data_of("structure S :> sig structure T : sig type t end datatype u = A end = struct datatype u = A structure T = "
                                 "struct type t = int end end"), ["u = A", "t =", "u = A"])
        self.assertEqual(data_of("structure S :> sig type t type u end where type t = int = struct type t = int type u = bool end"), ["u ="])
        self.assertEqual(data_of("signature G = sig type t datatype u = A end"), [])

    def test_functors(self):
        functor = "functor F (X : sig type t datatype p = P of t end) = struct datatype a = A of X.t structure S :> sig type s end = struct type s = int end " \
                  "datatype b = B of X.p end "
        self.assertEqual(data_of(functor), [])
        self.assertEqual(data_of(functor + "structure R = F (struct type t = int datatype p = P of int end) datatype z = Z"),
                         ["p = P of int", "a = A of int", "s =", "b = B of p", "z = Z"])
        twice = "structure Q = struct type t = bool datatype p = P of t end structure R = F (Q) structure S = F (Q)"
        self.assertEqual(data_of(functor + twice), ["p = P of bool"] + ["a = A of bool", "s =", "b = B of p"] * 2)
        data = check(parse(functor + twice))[1]
        self.assertEqual(len({name for name, _, _ in data}), 9)
        self.assertEqual(data[5][2][0][1], ("con", data[2][0], ()))
        self.assertEqual(data[8][2][0][1], ("con", data[2][0], ()))
        self.assertEqual(data_of("functor F (X : sig end) = struct datatype t = A end structure S = F (F (struct end))"), ["t = A"] * 2)
        self.assertEqual(data_of("functor F (X : sig end) = struct datatype t = A end functor H (X : sig end) = struct datatype u = B of int "
                                 "structure Y = F (X) datatype v = C of Y.t end structure S = H (struct datatype w = D end)"),
                         ["w = D", "u = B of int", "t = A", "v = C of t"])

    def test_recursive_data_of_functors(self):
        data = check(parse("functor F (X : sig type t end) = struct datatype a = A of b | N and b = B of a * X.t end "
                           "structure S = F (struct type t = int end)"))[1]
        a, b = data[2][0], data[3][0]
        self.assertEqual(data[2][2], (("A", ("con", b, ())), ("N", None)))
        self.assertEqual(data[3][2], (("B", ("tuple", (("con", a, ()), ("con", "int", ())))),))


class ExpandedSize(CheckTests):
    def limit(self, beyond, text):
        program = parse(text)
        if beyond:
            with self.assertRaises(LimitError):
                check(program)
        else:
            check(program)

    def doubling(self, count):
        """Functors, each of which applies the one before it twice."""
        texts = ["functor F0 (X : sig end) = struct val x = 1 end"]
        for k in range(count):
            texts.append(f"functor F{k + 1} (X : sig end) = struct structure A = F{k} (X) structure B = F{k} (X) end")
        return " ".join(texts) + " "

    def test_sizes(self):
        # The body of F0 has 4 nodes; the one of F(k + 1) has 1 + 2 (1 + 1 + 1) more than twice that of F(k).
        bodies = [4]
        for _ in range(10):
            bodies.append(7 + 2 * bodies[-1])
        functors = [2 + body for body in bodies]
        for count in range(5, 10):
            total = sum(functors[:count + 1])
            self.limit(total > 4000, self.doubling(count))
        total = sum(functors[:8])
        self.assertLess(total, 3000)
        # Each val with a number has 3 nodes, an application to an empty struct 1 + 1 + 1 and the body.
        for goal in (4000, 4001):
            left, text = goal - total, self.doubling(7)
            for k in (6, 5, 4, 3, 2, 1, 0):
                if left >= 3 + bodies[k] + 6:
                    left -= 3 + bodies[k]
                    text += f"structure S = F{k} (struct end) "
            text += "val x = 1 " * ((left - 5) // 3)
            left -= 3 * ((left - 5) // 3)
            text += {5: "val x = (1, 2)", 6: "val x = (1, 2, 3)", 7: "val x = (1, 2, 3, 4)"}[left]
            self.assertLessEqual(len(parse(text)), 60)
            self.limit(goal > 4000, text)

    def test_before_any_other_error(self):
        for before in ("val x = y ", "val x = 1 + True ", "val x = case 1 of 2 => 3 "):
            self.limit(True, before + self.doubling(14))
            self.limit(True, self.doubling(14) + before)

    def test_functors_that_are_not_in_scope(self):
        self.rejects(ScopeError, 0, "structure S = F (struct end) " + self.doubling(5))
        self.limit(True, self.doubling(7) + "structure S = F7 (struct end) " * 30)
        text = self.doubling(7).replace("functor F7", "functor G7") + "structure S = F7 (struct end) " * 30
        self.rejects(ScopeError, 8, text)

    def test_the_functor_that_is_in_scope(self):
        text = self.doubling(7) + "functor F7 (X : sig end) = struct end " + "structure S = F7 (struct end) " * 30
        self.limit(False, text)
        text = "functor F (X : sig end) = struct structure Y = F (X) end " * 3
        self.rejects(ScopeError, 0, text)

    def test_huge_sizes(self):
        self.limit(True, self.doubling(40))


if __name__ == "__main__":
    unittest.main()
