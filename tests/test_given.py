"""Programs with given structures (point 91)."""

import unittest

from checking import written
from guanaco.checker import check, check_with
from guanaco.errors import LimitError, Mismatch, ScopeError, Uncovered
from guanaco.monos import ty_scheme
from guanaco.parser import parse, parse_ty


def given(**structures):
    return tuple((name, tuple((low, ty_scheme(parse_ty(text))) for low, text in pairs)) for name, pairs in structures.items())


A = given(A=(("x", "int"), ("f", "'a -> 'a list"), ("r", "string ref"), ("e", "exn"), ("b", "bool list"), ("p", "'b * 'c -> 'c * 'b")),
          B=(("x", "unit"),), C=())


class Given(unittest.TestCase):
    def types(self, text, structures=A):
        return {name: written(ty) for name, (_, ty) in check_with(parse(text), structures)[0]}

    def rejects(self, error, number, text, structures=A):
        with self.assertRaises(error, msg=text) as caught:
            check_with(parse(text), structures)
        self.assertIs(type(caught.exception), error)
        self.assertEqual(caught.exception.number, number)

    def test_values(self):
        self.assertEqual(self.types("val y = A.x + 1"), {"y": "int"})
        self.assertEqual(self.types("val y = (A.f 1, A.f True) val z = A.f"), {"y": "int list * bool list", "z": "'a -> 'a list"})
        self.assertEqual(self.types("val y = !A.r ^ \"a\" val z = 1 handle e => raise A.e val w = B.x"), {"y": "string", "z": "int", "w": "unit"})
        self.assertEqual(self.types("val y = case A.b of [] => 1 | True :: _ => 2 | False :: _ => 3"), {"y": "int"})
        self.assertEqual(self.types("val y = A.p"), {"y": "'a * 'b -> 'b * 'a"})
        self.assertEqual(self.types("open A val y = x val z = f y"), {"y": "int", "z": "int list"})
        self.assertEqual(self.types("structure A = struct val x = True end val y = A.x"), {"y": "bool"})
        self.assertEqual(self.types("val y = 1"), {"y": "int"})

    def test_as_structures(self):
        self.assertEqual(self.types("structure S : sig val x : int val f : int -> int list end = A val y = S.f S.x"), {"y": "int list"})
        self.assertEqual(self.types("functor F (X : sig val x : int end) = struct val y = X.x end structure S = F (A) val z = S.y"), {"z": "int"})
        self.assertEqual(self.types("structure S = C structure T = struct open C val y = 1 end val z = T.y"), {"z": "int"})

    def test_errors(self):
        for text in ("val y = A.y", "val y = x", "val y = A.X", "val y = 1 : A.t", "open D", "structure S = A.A", "val y = C.x",
                     "val y = 1 handle A.E => 2", "structure S = D"):
            self.rejects(ScopeError, 0, text)
        self.rejects(ScopeError, 0, "val y = A.x", ())
        self.rejects(Mismatch, 1, "val z = 1 val y = A.x ^ \"a\"")
        self.rejects(Mismatch, 0, "val y = A.f : int -> int")
        self.rejects(Uncovered, 0, "val y = case A.b of [] => 1")
        with self.assertRaises(LimitError):
            check_with(parse("functor F0 (X : sig end) = struct end " + " ".join(
                f"functor F{k + 1} (X : sig end) = struct structure A = F{k} (X) structure B = F{k} (X) end" for k in range(15))), A)

    def test_without_structures_it_is_check(self):
        for text in ("", "val x = 1", "datatype 'a t = A of 'a fun f (A x) = x", "structure S :> sig type t end = struct type t = int end"):
            self.assertEqual(check_with(parse(text), ()), check(parse(text)))

    def test_data_has_nothing_of_them(self):
        self.assertEqual(check_with((), A), check(()))

    def test_arguments_are_not_changed(self):
        structures = given(A=(("x", "int"),))
        check_with(parse("open A val x = True structure A = struct end"), structures)
        self.assertEqual(structures, given(A=(("x", "int"),)))


if __name__ == "__main__":
    unittest.main()
