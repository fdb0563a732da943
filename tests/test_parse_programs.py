"""The grammar of declarations, structures, signatures and specifications (points 10, 14 and 17)."""

import unittest

from guanaco.parser import parse

INT, T = ("tycon", ("int",), ()), ("tycon", ("t",), ())
X, Y = ("name", "x"), ("name", "y")
ONE, TWO = ("int", 1), ("int", 2)
A, B = ("tyvar", "a"), ("tyvar", "b")
S, G = ("path", ("S",)), ("signame", "G")


class Programs(unittest.TestCase):
    def check(self, cases):
        for text, *declarations in cases:
            self.assertEqual(parse(text), tuple(declarations), text)

    def test_empty(self):
        for text in ("", " \n", "(* nothing *)"):
            self.assertEqual(parse(text), ())

    def test_val(self):
        self.check([
            ("val x = 1", ("val", X, ONE)), ("val (x, y) = 1", ("val", ("ptuple", (X, Y)), ONE)),
            ("val _ = 1 : t", ("val", ("any",), ("typed", ONE, T))),
            ("val x :: y = 1", ("val", ("pcon", ("Cons",), ("ptuple", (X, Y))), ONE)),
            ("val A x = fn y => 1", ("val", ("pcon", ("A",), X), ("fn", ((Y, ONE),)))),
        ])

    def test_fun(self):
        self.check([
            ("fun f x = 1", ("fun", (("f", ((X, ONE),)),))),
            ("fun f 1 = 1 | f x = 2", ("fun", (("f", ((("pint", 1), ONE), (X, TWO))),))),
            ("fun f x y = 1", ("fun", (("f", ((X, ("fn", ((Y, ONE),))),)),))),
            ("fun f x _ y = 1", ("fun", (("f", ((X, ("fn", ((("any",), ("fn", ((Y, ONE),))),))),)),))),
            ("fun f x x = 1", ("fun", (("f", ((X, ("fn", ((X, ONE),))),)),))),
            ("fun f x = 1 and g y = 2", ("fun", (("f", ((X, ONE),)), ("g", ((Y, TWO),))))),
            ("fun f x y = 1 and g 1 = 1 | g _ = 2", ("fun", (
                ("f", ((X, ("fn", ((Y, ONE),))),)), ("g", ((("pint", 1), ONE), (("any",), TWO)))))),
            ("fun f (x, y) = 1 | f () = 2", ("fun", (("f", ((("ptuple", (X, Y)), ONE), (("ptuple", ()), TWO))),))),
            ("fun f A x = 1", ("fun", (("f", ((("pcon", ("A",), None), ("fn", ((X, ONE),))),)),))),
            ("fun f (A x) = 1", ("fun", (("f", ((("pcon", ("A",), X), ONE),)),))),
            ("fun f ~1 [] \"s\" = 1", ("fun", (("f", ((("pint", -1), ("fn", ((("pcon", ("Nil",), None), ("fn", (
                (("pstring", "s"), ONE),))),))),)),))),
            ("fun f x = case x of y => 1", ("fun", (("f", ((X, ("case", ("var", ("x",)), ((Y, ONE),))),)),))),
            ("fun f 1 = (fn x => 1) | f _ = 2", ("fun", (("f", ((("pint", 1), ("fn", ((X, ONE),))),
                                                              (("any",), TWO))),))),
        ])

    def test_datatype(self):
        self.check([
            ("datatype t = A", ("datatype", (((), "t", (("A", None),)),))),
            ("datatype t = A | B of int", ("datatype", (((), "t", (("A", None), ("B", INT))),))),
            ("datatype 'a t = A of 'a", ("datatype", ((("a",), "t", (("A", A),)),))),
            ("datatype ('a) t = A", ("datatype", ((("a",), "t", (("A", None),)),))),
            ("datatype ('a, 'b) t = A of 'a * 'b and u = B of t", ("datatype", (
                (("a", "b"), "t", (("A", ("tytuple", (A, B))),)), ((), "u", (("B", T),))))),
        ])

    def test_alias_exception_open(self):
        self.check([
            ("type t = int", ("alias", (), "t", INT)), ("type 'a t = 'a", ("alias", ("a",), "t", A)),
            ("type ('b, 'a) t = 'a -> 'b", ("alias", ("b", "a"), "t", ("tyfun", A, B))),
            ("exception E", ("exception", "E", None)), ("exception E of int * t", (
                "exception", "E", ("tytuple", (INT, T)))), ("open S", ("open", ("S",))),
            ("open S.T.U", ("open", ("S", "T", "U"))),
        ])

    def test_structures(self):
        self.check([
            ("structure A = S", ("structure", "A", S)), ("structure A = S.T", ("structure", "A", ("path", ("S", "T")))),
            ("structure A = struct end", ("structure", "A", ("struct", ()))),
            ("structure A = struct val x = 1 end", ("structure", "A", ("struct", (("val", X, ONE),)))),
            ("structure A = struct val x = 1; type t = int; structure B = S; end", ("structure", "A", ("struct", (
                ("val", X, ONE), ("alias", (), "t", INT), ("structure", "B", S))))),
            ("structure A = F (S)", ("structure", "A", ("apply", "F", S))),
            ("structure A = F (F (S : G))", ("structure", "A", ("apply", "F", ("apply", "F", ("seal", S, G, False))))),
            ("structure A = F (struct end)", ("structure", "A", ("apply", "F", ("struct", ())))),
        ])

    def test_seals(self):
        self.check([
            ("structure A : G = S", ("structure", "A", ("seal", S, G, False))),
            ("structure A :> G = S", ("structure", "A", ("seal", S, G, True))),
            ("structure A = S : G", ("structure", "A", ("seal", S, G, False))),
            ("structure A = S :> G", ("structure", "A", ("seal", S, G, True))),
            ("structure A = S : G :> H", ("structure", "A", ("seal", ("seal", S, G, False), ("signame", "H"), True))),
            ("structure A :> H = S : G", ("structure", "A", ("seal", ("seal", S, G, False), ("signame", "H"), True))),
            ("structure A = F (S) : G", ("structure", "A", ("seal", ("apply", "F", S), G, False))),
            ("structure A : sig end = S", ("structure", "A", ("seal", S, ("sig", ()), False))),
            ("structure A : G where type t = int = S", ("structure", "A", (
                "seal", S, ("where", G, ("t",), (), INT), False))),
        ])

    def test_functors(self):
        self.check([
            ("functor F (X : G) = S", ("functor", "F", "X", G, S)),
            ("functor F (X : G) : H = S", ("functor", "F", "X", G, ("seal", S, ("signame", "H"), False))),
            ("functor F (X : G) :> H = S : G", ("functor", "F", "X", G, (
                "seal", ("seal", S, G, False), ("signame", "H"), True))),
            ("functor F (X : sig end) = struct end", ("functor", "F", "X", ("sig", ()), ("struct", ()))),
        ])

    def test_signatures(self):
        self.check([
            ("signature A = G", ("signature", "A", G)), ("signature A = sig end", ("signature", "A", ("sig", ()))),
            ("signature A = G where type t = int", ("signature", "A", ("where", G, ("t",), (), INT))),
            ("signature A = G where type 'a S.t = 'a", ("signature", "A", ("where", G, ("S", "t"), ("a",), A))),
            ("signature A = G where type t = int where type ('a, 'b) u = 'b", ("signature", "A", (
                "where", ("where", G, ("t",), (), INT), ("u",), ("a", "b"), B))),
            ("signature A = sig end where type t = int", ("signature", "A", ("where", ("sig", ()), ("t",), (), INT))),
        ])

    def test_specifications(self):
        specifications = [
            ("val x : int -> 'a", ("sval", "x", ("tyfun", INT, A))), ("type t", ("stype", (), "t", None)),
            ("type 'a t", ("stype", ("a",), "t", None)), ("type ('a, 'b) t", ("stype", ("a", "b"), "t", None)),
            ("type t = int", ("stype", (), "t", INT)), ("type 'a t = 'a", ("stype", ("a",), "t", A)),
            ("datatype 'a t = A | B of 'a and u = C", ("sdata", (
                (("a",), "t", (("A", None), ("B", A))), ((), "u", (("C", None),))))),
            ("exception E", ("sexn", "E", None)), ("exception E of int", ("sexn", "E", INT)),
            ("structure S : G", ("sstr", "S", G)), ("structure S : sig val x : t end", (
                "sstr", "S", ("sig", (("sval", "x", T),)))),
            ("structure S : G where type t = int", ("sstr", "S", ("where", G, ("t",), (), INT))),
        ]
        for text, tree in specifications:
            for end in ("", ";"):
                self.check([(f"signature A = sig {text}{end} end", ("signature", "A", ("sig", (tree,))))])
        for between in (" ", "; "):
            text = between.join(text for text, _ in specifications)
            self.check([(f"signature A = sig {text} end", ("signature", "A", ("sig", tuple(
                tree for _, tree in specifications))))])

    def test_semicolons(self):
        texts = ["val x = 1", "fun f x = 1", "datatype t = A", "type t = int", "exception E", "open S",
                 "structure A = S", "signature A = G", "functor F (X : G) = S"]
        trees = tuple(parse(text)[0] for text in texts)
        self.assertEqual(parse(" ".join(texts)), trees)
        self.assertEqual(parse("; ".join(texts)), trees)
        self.assertEqual(parse("; ".join(texts) + ";"), trees)
        inner = texts[:-2]
        for between in (" ", ";"):
            self.assertEqual(parse("structure Z = struct " + between.join(inner) + " end"), (
                ("structure", "Z", ("struct", trees[:-2])),))


if __name__ == "__main__":
    unittest.main()
