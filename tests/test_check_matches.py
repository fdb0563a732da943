"""Uncovered and unused matches of programs (points 26, 31 and 32)."""

import unittest

from checking import CheckTests
from guanaco.checker import check
from guanaco.errors import Uncovered, Unused
from guanaco.parser import parse

ANY = ("any",)


class Matches(CheckTests):
    def lacks(self, text, wanted, number=0):
        with self.assertRaises(Uncovered, msg=text) as caught:
            check(parse(text))
        self.assertEqual((caught.exception.number, caught.exception.missing), (number, wanted), text)

    def test_covered(self):
        self.accepts(
            "val f = fn True => 1 | False => 2", "fun f [] = 1 | f (x :: r) = 2", "val (x, y) = (1, 2)", "val () = ()",
            "val x = case [1] of [] => 1 | [y] => y | y :: _ :: _ => y", "val x = 1 handle Div => 2",
            "fun f 1 = 1 | f _ = 2", 'fun f "a" = 1 | f x = 2', "datatype t = A | B of t fun f A = 1 | f (B A) = 2 | f (B (B _)) = 3",
            "datatype t = A of int val A x = A 1", "datatype 'a t = A of 'a | B fun f (A True) = 1 | f (A False) = 2 | f B = 3",
            "fun f (1, True) = 1 | f (_, False) = 2 | f (x, True) = 3", "val f = fn Div => 1 | _ => 2")

    def test_missing(self):
        self.lacks("val f = fn True => 1", ("pcon", ("False",), None))
        self.lacks("fun f [] = 1", ("pcon", ("Cons",), ANY))
        self.lacks("val x = case 1 of 1 => 2", ANY)
        self.lacks("val 1 = 1", ANY)
        self.lacks("val x :: y = [1]", ("pcon", ("Nil",), None))
        self.lacks("val f = fn Div => 1", ANY)
        self.lacks("exception E of int val f = fn E _ => 1 | Div => 2", ANY, 1)
        self.lacks("datatype t = A | B of int fun f A = 1 | f (B 1) = 2", ("pcon", ("B",), ANY), 1)
        self.lacks("val f = fn (True, _) => 1 | (_, False) => 2", (
            "ptuple", (("pcon", ("False",), None), ("pcon", ("True",), None))))
        self.lacks("structure S = struct datatype t = A | B end val f = fn S.A => 1", ("pcon", ("B",), None), 1)

    def test_unused(self):
        self.rejects(Unused, 0, "val f = fn _ => 1 | 1 => 2", "fun f True = 1 | f False = 2 | f _ = 3",
                     "val x = case [1] of [] => 1 | _ => 2 | [x] => x", "val x = 1 handle _ => 2 | Div => 3",
                     "val x = 1 handle Div => 2 | Div => 3", "val f = fn (1, _) => 1 | (x, y) => 2 | (2, _) => 3")
        self.accepts("val x = 1 handle Div => 2 | Size => 3 | _ => 4")

    def test_unused_comes_before_uncovered_in_one_match(self):
        self.rejects(Unused, 0, "val f = fn 1 => 1 | 1 => 2", "fun f [] = 1 | f [] = 2")
        self.rejects(Unused, 1, "val x = 1 val f = fn True => 1 | True => 2")

    def test_first_match_decides(self):
        uncovered, unused = "(fn 1 => 1)", "(fn _ => 1 | _ => 2)"
        for first, second, error in ((uncovered, unused, Uncovered), (unused, uncovered, Unused)):
            self.rejects(error, 0, f"val x = ({first}, {second})", f"val x = {first} ({second} 1)",
                         f"val x = if True then {first} else {second}", f"val x = ({first}; {second})",
                         f"val x = let val y = {first} in {second} end", f"val x = let fun f y = {first} in {second} end",
                         f"structure S = struct val x = {first} val y = {second} end",
                         f"functor F (X : sig end) = struct val x = {first} val y = {second} end",
                         f"fun f y = {first} and g y = {second}", f"val x = [{first}, {second}]")

    def test_a_match_comes_before_its_bodies(self):
        inner = "(fn _ => 1 | _ => 2)"
        self.rejects(Uncovered, 0, f"val x = fn 1 => {inner}", f"val x = case 1 of 1 => {inner}", f"fun f 1 = {inner}",
                     f"fun f 1 = {inner} and g x = {inner}")
        inner = "(fn 1 => 1)"
        self.rejects(Unused, 0, f"val x = fn _ => {inner} | _ => {inner}", f"val x = case 1 of _ => {inner} | _ => {inner}",
                     f"val x = {inner[:-1]} | _ => 2) handle _ => {inner} | _ => {inner}")

    def test_a_match_comes_behind_what_it_looks_at(self):
        self.rejects(Unused, 0, "val x = case (fn _ => 1 | _ => 2) 1 of 1 => 2",
                     "val 1 = (fn _ => 1 | _ => 2) 1")
        self.rejects(Uncovered, 0, "val x = case (fn 1 => 1) 1 of _ => 1 | _ => 2", "val x = (fn 1 => 1) 1 handle _ => 1 | _ => 2",
                     "val x = let val (True, y) = ((fn 1 => True) 1, 2) in (fn _ => 1 | _ => 2) end")

    def test_functions_of_a_fun_in_their_order(self):
        self.rejects(Uncovered, 0, "fun f x = (fn 1 => 1) and g _ = 1 | g _ = 2")
        self.rejects(Unused, 0, "fun f _ = 1 | f _ = 2 and g 1 = 2")

    def test_exceptions(self):
        head = "exception E of int exception F structure S = struct exception E of int end open S structure T = S "
        self.rejects(Unused, 5, head + "val x = 1 handle E _ => 1 | S.E 1 => 2", head + "val x = 1 handle S.E _ => 1 | T.E _ => 2",
                     head + "val x = 1 handle T.E n => n | E n => n", head + "val x = 1 handle F => 1 | F => 2")
        self.accepts("exception E structure S = struct exception E end val x = 1 handle E => 1 | S.E => 2",
                     "exception E val f = fn e => 1 handle E => 2",
                     "exception E fun f () = 1 handle E => 1 val x = let exception E in 1 handle E => 2 end",
                     "exception E val x = fn f => let exception F in f () handle E => 1 | F => 2 end")
        self.rejects(Unused, 0, "val x = let exception E in 1 handle E => 1 | E => 2 end")

    def test_exceptions_of_structures_with_signatures(self):
        head = "signature G = sig exception E end structure R = struct exception E end "
        self.rejects(Unused, 3, head + "structure S : G = R val x = 1 handle S.E => 1 | S.E => 2",
                     head + "structure S :> G = R val x = let open S in 1 handle E => 1 | S.E => 2 end")
        self.rejects(Unused, 2, head + "functor F (X : G) = struct open X val x = 1 handle X.E => 1 | E => 2 end")
        self.accepts(head + "structure S : G = struct exception E end structure T : G = struct exception E end "
                     "val x = 1 handle S.E => 1 | T.E => 2",
                     head + "signature H = sig structure A : G structure B : G end functor F (X : H) = struct "
                     "val x = 1 handle X.A.E => 1 | X.B.E => 2 end",
                     "functor F (X : sig end) = struct exception E end structure A = F (struct end) structure B = F (struct end) "
                     "val x = 1 handle A.E => 1 | B.E => 2",
                     head + "functor F (X : G) = struct exception D val x = 1 handle X.E => 1 | D => 2 end structure A = F (R) "
                     "val x = 1 handle A.D => 1 | R.E => 2")
        self.rejects(Unused, 2, "functor F (X : sig end) = struct exception E end structure A = F (struct end) "
                     "structure B = struct open A val x = 1 handle A.E => 1 | E => 2 end")

    def test_exceptions_with_arguments(self):
        self.rejects(Unused, 1, "exception E of bool val x = 1 handle E True => 1 | E False => 2 | E _ => 3")
        self.accepts("exception E of bool val f = fn E True => 1 | E False => 2 | _ => 3")
        self.accepts("signature G = sig type t exception E of t list end functor F (X : G) = struct val x = 1 handle X.E [] => 1 "
                     "| X.E [y] => 2 | X.E _ => 3 end")
        self.rejects(Unused, 0, "functor F (X : sig type t exception E of t list end where type t = bool) = struct val x = "
                     "1 handle X.E [True] => 1 | X.E [False] => 2 | X.E [_] => 3 end")

    def test_abstract_types(self):
        head = "structure S :> sig type t val x : t datatype u = A of t | B end = struct datatype t = C | D val x = C " \
               "datatype u = A of t | B end "
        self.accepts(head + "val y = case S.x of _ => 1", head + "val f = fn S.A _ => 1 | S.B => 2")
        self.lacks(head + "val f = fn (S.A _, 1) => 1", ("ptuple", (("pcon", ("B",), None), ANY)), 1)
        self.lacks(head + "val f = fn (_, S.B) => 1", ("ptuple", (ANY, ("pcon", ("A",), ANY))), 1)

    def test_constructors_by_any_path(self):
        head = "structure S = struct datatype t = A | B end structure T = S open T "
        self.accepts(head + "val f = fn S.A => 1 | T.B => 2", head + "val f = fn A => 1 | S.B => 2")
        self.rejects(Unused, 3, head + "val f = fn S.A => 1 | T.A => 2 | _ => 3")
        self.lacks("structure S : sig datatype t = A | B end = struct datatype t = A | B end val f = fn S.A => 1",
                   ("pcon", ("B",), None), 1)
        self.lacks("functor F (X : sig datatype t = A | B end) = struct val f = fn X.A => 1 end", ("pcon", ("B",), None))
        self.lacks("functor F (X : sig type a end) = struct datatype t = A of X.a | B end structure S = F (struct type a = bool end) "
                   "val f = fn S.A True => 1 | S.B => 2", ("pcon", ("A",), ("pcon", ("False",), None)), 2)

    def test_functor_bodies_are_checked_once(self):
        self.rejects(Uncovered, 1, "val x = 1 functor F (X : sig end) = struct fun f 1 = 2 end structure S = F (struct end)")

    def test_unknown_types(self):
        self.accepts("val f = fn x => case x of y => y", "val x = let val f = fn (y, True) => y | (y, False) => y in 1 end",
                     "val x = case raise Div of _ => 1", "val x = case [] of [] => 1 | [()] => 2 | _ => 3")
        self.rejects(Unused, 0, "val x = case raise Div of (True, _) => 1 | (False, _) => 2 | _ => 3")


if __name__ == "__main__":
    unittest.main()
