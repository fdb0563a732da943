"""What is in scope, and ScopeError (points 24, 25, 61 and 62)."""

import unittest

from checking import CheckTests, bindings_of
from guanaco.errors import Mismatch, ScopeError


class Scopes(CheckTests):
    def wrong(self, *texts):
        self.rejects(ScopeError, 0, *texts)

    def test_values(self):
        self.wrong("val x = y", "val x = x", "fun f x = y", "val f = fn x => y", "val x = let val y = 1 in z end",
                   "val x = (let val y = 1 in y end, y)", "val x = case 1 of y => z", "val x = 1 handle y => z",
                   "val x = S.y", "val x = int", "val x = let val y = y in 1 end", "val x = let fun f z = z in z end",
                   "val x = (fn y => y, y)", "val x = case y of y => 1", "val x = y handle y => 1")
        self.rejects(ScopeError, 1, "val x = 1 val y = (x, z)", "structure S = struct val x = 1 end val y = S.z",
                     "structure S = struct val x = 1 end val y = x", "structure S = struct val x = 1 end val y = S.T.x",
                     "structure S = struct structure T = struct end val x = 1 end val y = S.T.x")
        self.accepts("val x = let val y = 1 val z = y in z end", "fun f x = f x", "fun f x = g x and g x = f x",
                     "structure S = struct val x = 1 end val y = S.x", "val x = 1 val x = x")

    def test_constructors(self):
        self.wrong("val x = A", "val x = fn A => 1 | _ => 2", "val x = S.A", "val x = fn S.A y => 1 | _ => 2",
                   "val x = 1 handle E => 2", "val x = raise E", "val A = 1", "val x = (let exception E in 1 end, E)",
                   "val x = fn (1, [B]) => 1 | _ => 2")
        self.rejects(ScopeError, 1, "datatype t = A val x = B", "structure S = struct datatype t = A end val x = A",
                     "structure S : sig type t end = struct datatype t = A end val x = S.A",
                     "structure S = struct datatype t = A end : sig type t end val x = fn S.A => 1")
        self.accepts("datatype t = A val x = A", "structure S = struct exception E end val x = S.E",
                     "val x = let exception E in E end", "datatype t = A of t | B val x = A B")

    def test_constructors_and_values_are_apart(self):
        self.accepts("datatype t = A val a = A structure A = struct val a = 1 end val x = (A, A.a, a)",
                     "type x = int val x = 1 : x", "datatype x = X structure X = struct end val x = X : x")
        self.wrong("datatype t = A of u", "type t = x", "val x = 1 : x")
        self.rejects(ScopeError, 1, "type t = int val x = t", "val t = 1 type u = t", "structure A = struct end val x = A",
                     "datatype t = A structure S = A", "datatype t = A open A")

    def test_structures(self):
        self.wrong("structure S = T", "structure S = T.U", "open S", "val x = let open S in 1 end", "structure S = S",
                   "structure S = struct open T end", "structure S = F (struct end)", "structure S = struct structure T = S end")
        self.rejects(ScopeError, 1, "structure S = struct end structure T = S.U", "structure S = struct end open S.T",
                     "structure S = struct structure T = struct end end structure U = T",
                     "structure S = struct end structure T = S (struct end)",
                     "functor F (X : sig end) = struct end structure S = F",
                     "functor F (X : sig end) = struct end structure S = X")
        self.accepts("structure S = struct structure T = struct val x = 1 end end structure U = S.T val x = U.x",
                     "structure S = struct val x = 1 end structure T = struct open S val y = x end val z = (T.x, T.y)",
                     "functor F (X : sig end) = struct end structure S = F (F (struct end))")

    def test_signatures(self):
        self.wrong("signature G = H", "structure S : G = struct end", "structure S :> G = struct end", "signature G = G",
                   "functor F (X : G) = struct end", "functor F (X : sig end) : G = struct end",
                   "signature G = sig structure S : H end", "signature G = H where type t = int")
        self.rejects(ScopeError, 1, "structure G = struct end structure S : G = G", "signature G = sig end structure S = G",
                     "signature G = sig val x : int end val x = x")
        self.accepts("signature G = sig end signature H = G structure S : H = struct end")

    def test_functors(self):
        self.wrong("functor F (X : sig end) = F (X)", "functor F (X : sig val x : int end) = struct val y = X.z end",
                   "functor F (X : sig end) = struct val y = 1 val z = x end", "functor F (X : sig end) = struct open Y end",
                   "functor F (X : sig type t end) = struct val y = fn z => z : t end")
        self.rejects(ScopeError, 1, "functor F (X : sig end) = struct end val x = X.y",
                     "functor F (X : sig end) = struct val a = 1 end val x = F.a",
                     "functor F (X : sig end) = struct end structure S = G (struct end)")
        self.rejects(ScopeError, 2, "functor F (X : sig val x : int end) = struct end structure S = F (struct val x = 1 end) val y = S.x",
                     "functor F (X : sig end) : sig end = struct val a = 1 end structure S = F (struct end) val y = S.a")
        self.accepts("functor F (X : sig val x : int end) :> sig val y : int end = struct val y = X.x end "
                     "structure S = F (struct val x = 1 end) val y = S.y",
                     "functor F (X : sig type t end) : sig type u = X.t end = struct type u = X.t end")

    def test_types(self):
        self.wrong("val x = 1 : t", "type t = u", "type t = t", "datatype t = A of u", "exception E of t", "val x = 1 : S.t",
                   "val x = let exception E of t in 1 end", "signature G = sig val x : t end", "signature G = sig type t = t end",
                   "signature G = sig datatype t = A of u end", "signature G = sig exception E of t end",
                   "signature G = sig type t end where type t = u", "signature G = sig val x : t type t end",
                   "signature G = sig type t end where type t = t")
        self.accepts("datatype t = A of t | B of u and u = C of t", "signature G = sig type t val x : t end",
                     "signature G = sig datatype t = A of u and u = B end", "signature G = sig structure S : sig type t end val x : S.t end",
                     "type t = int signature G = sig type t end where type t = t")

    def test_numbers_of_arguments(self):
        self.wrong("val x = 1 : int int", "val x = [] : list", "val x = [] : (int, int) list", "type t = ref", "datatype t = A of bool bool",
                   "datatype 'a t = A of t", "datatype 'a t = A of ('a, 'a) t", "type 'a t = 'a int", "exception E of list",
                   "val x = 1 : unit unit", "signature G = sig type 'a t val x : t end", "signature G = sig type t val x : int t end",
                   "datatype 'a t = A of int u and u = B", "signature G = sig type 'a t end where type 'a t = 'a int")
        self.rejects(ScopeError, 1, "type 'a t = 'a val x = 1 : t", "type t = int val x = 1 : int t", "datatype 'a t = A val x = A : t",
                     "type ('a, 'b) t = 'a val x = 1 : int t", "datatype t = A val x = A : (int, int, int, int, int) t")
        self.accepts("type 'a t = int type u = int t t", "datatype 'a unit = A val x = A : int unit")

    def test_letters(self):
        self.wrong("val x = [] : 'a list", "val x = fn y => y : 'a", "exception E of 'a", "type t = 'a", "type 'a t = 'b",
                   "datatype t = A of 'a", "datatype 'a t = A of 'b", "datatype 'a t = A of 'a and u = B of 'a",
                   "datatype 'a t = A and 'b u = B of 'a", "val x = let exception E of 'a in 1 end", "signature G = sig type t = 'a end",
                   "signature G = sig type 'a t = 'b end", "signature G = sig datatype t = A of 'a end",
                   "signature G = sig exception E of 'a end", "signature G = sig type t end where type t = 'a",
                   "signature G = sig type 'a t end where type 'b t = 'a", "val f = let fun g x = x : 'a in g end",
                   "structure S = struct type 'a t = 'a exception E of 'a end")
        self.accepts("type 'a t = 'a", "type 'a t = int", "datatype ('a, 'b) t = A of 'b", "signature G = sig val x : 'a -> 'b end",
                     "signature G = sig type 'a t = 'a list datatype 'b u = B of 'b val x : 'c t end",
                     "signature G = sig type 'a t end where type 'b t = 'b list")

    def test_names_twice(self):
        self.wrong("fun f x = 1 and f y = 2", "fun f x = 1 and g x = 2 and f y = 3", "datatype t = A and t = B", "datatype t = A | A",
                   "datatype t = A and u = A", "datatype t = A | B of int | A of int", "val x = let fun f x = 1 and f y = 2 in 1 end",
                   "signature G = sig datatype t = A and t = B end", "signature G = sig datatype t = A | A end",
                   "signature G = sig datatype t = A and u = A end")
        self.accepts("fun f x = 1 fun f x = 2", "datatype t = A datatype t = A datatype u = A", "val x = 1 val x = 2",
                     "structure S = struct val x = 1 val x = 2 type t = int type t = bool exception E exception E end",
                     "fun f x = x and g y = let fun f x = x in f y end")

    def test_specified_twice(self):
        self.wrong("signature G = sig val x : int val x : int end", "signature G = sig type t type t end",
                   "signature G = sig type t type 'a t = int end", "signature G = sig type t datatype t = A end",
                   "signature G = sig datatype t = A datatype u = A end", "signature G = sig exception A datatype u = A end",
                   "signature G = sig exception A exception A of int end",
                   "signature G = sig structure S : sig end structure S : sig end end",
                   "signature G = sig structure S : sig val x : int val x : int end end")
        self.accepts("signature G = sig val x : int type x structure X : sig val x : int end datatype t = X end",
                     "signature G = sig structure A : sig type t end structure B : sig type t end type t end")

    def test_where(self):
        self.wrong("signature G = sig type t end where type u = int", "signature G = sig type t end where type 'a t = int",
                   "signature G = sig type 'a t end where type t = int", "signature G = sig val t : int end where type t = int",
                   "signature G = sig type t end where type S.t = int", "signature G = sig type ('a, 'b) t end where type 'a t = int",
                   "signature G = sig datatype t = A end where type 'a t = int", "signature G = sig type t = int end where type 'a t = int",
                   "signature G = sig structure S : sig type t end end where type t = int")
        self.accepts("signature G = sig structure S : sig type 'a t end end where type 'b S.t = 'b list")

    def test_openings(self):
        head = "structure S = struct val x = 1 type t = int datatype u = A exception E structure T = struct val y = 2 end end "
        self.accepts(head + "open S val z = (x, A, E, T.y, 1 : t) : int * u * exn * int * t", head + "open S.T val z = y",
                     head + "val z = let open S in (x, A, E, T.y, 1 : t) end", head + "structure R = struct open S end val z = R.T.y")
        self.rejects(ScopeError, 2, head + "val a = let open S in x end val z = x", head + "structure R = struct open S end val z = x")
        self.assertEqual(bindings_of(head + "val x = True val y = let open S in x end val z = x"), {
            "x": "bool", "y": "int", "z": "bool"})

    def test_hiding(self):
        self.assertEqual(bindings_of("type t = int val x = 1 : t type t = bool val y = True : t"), {"x": "int", "y": "bool"})
        self.rejects(Mismatch, 2, "datatype t = A datatype t = B val x = [A, B]")
        self.accepts("structure S = struct val x = 1 end structure S = struct val y = S.x end val z = S.y",
                     "signature G = sig val x : int end signature G = sig val y : int end structure S : G = struct val y = 1 end",
                     "functor F (X : sig end) = struct val x = 1 end functor F (X : sig end) = struct structure Y = F (X) end "
                     "structure S = F (struct end) val y = S.Y.x")
        self.rejects(ScopeError, 2, "structure S = struct val x = 1 end structure S = struct end val z = S.x")


if __name__ == "__main__":
    unittest.main()
