"""Types that are too large where their type constructors stand for others (point 29)."""

import random
import unittest

from guanaco.checker import check
from guanaco.compiler import compile_program
from guanaco.elaborate import elaborate
from guanaco.errors import Mismatch
from guanaco.monos import nodes
from guanaco.parser import parse
from guanaco.realization import realize_entry
from guanaco.sizes import LARGEST_REALIZED, entry_form, form_of

INT = ("con", "int", ())
ARITIES = {"t.1": 0, "t.2": 1, "t.3": 2, "t.4": 1, "t.5": 3, "list": 1, "int": 0}


def random_ty(chance, depth, names, letters):
    kind = chance.randint(0, 5)
    if depth == 0 or kind == 0:
        return ("var", chance.choice(letters)) if letters else INT
    if kind == 1:
        return ("fun", random_ty(chance, depth - 1, names, letters), random_ty(chance, depth - 1, names, letters))
    if kind == 2:
        return ("tuple", tuple(random_ty(chance, depth - 1, names, letters) for _ in range(chance.choice((0, 2, 3)))))
    name = chance.choice(names)
    return ("con", name, tuple(random_ty(chance, depth - 1, names, letters) for _ in range(ARITIES[name])))


def doubled(count, first="int * int"):
    """Structures, each of which hides a type of twice as many nodes."""
    text = f"structure S0 :> sig type t end = struct type t = {first} end "
    return text + "".join(f"structure S{k} :> sig type t end = struct type t = S{k - 1}.t * S{k - 1}.t end " for k in range(1, count))


class Sizes(unittest.TestCase):
    def test_forms(self):
        """A form tells the number of nodes of the type that is written out."""
        for seed in range(300):
            chance = random.Random(seed)
            forms, meanings, names = {}, {}, ["list", "int"]
            for name in ("t.1", "t.2", "t.3", "t.4", "t.5"):
                letters = tuple("abc"[:ARITIES[name]])
                entry = (letters, random_ty(chance, 2, names, letters))
                forms[name], meanings[name] = entry_form(forms, entry), realize_entry(meanings, entry)
                names.append(name)
            ty = random_ty(chance, 3, names, ("x", "y"))
            own, uses = form_of(forms, ty)
            _, realized = realize_entry(meanings, ((), ty))
            self.assertEqual(own + sum(uses.values()), nodes(realized), seed)

    def test_the_largest(self):
        self.assertEqual(form_of({"t.1": ((), (LARGEST_REALIZED, {}))}, ("con", "t.1", ())), (LARGEST_REALIZED, {}))
        one = {"t.1": (("a",), (LARGEST_REALIZED - 2, {"a": 2}))}
        self.assertEqual(form_of(one, ("con", "t.1", (INT,))), (LARGEST_REALIZED, {}))
        self.assertEqual(form_of(one, ("con", "t.1", (("var", "b"),))), (LARGEST_REALIZED - 2, {"b": 2}))
        for meanings, ty in (({"t.1": ((), (LARGEST_REALIZED + 1, {}))}, ("con", "t.1", ())), (one, ("con", "t.1", (("con", "list", (INT,)),))),
                             ({"t.1": (("a",), (LARGEST_REALIZED, {"a": 1}))}, ("con", "t.1", (("var", "b"),)))):
            with self.assertRaises(Mismatch):
                form_of(meanings, ty)

    def refuses(self, number, text):
        for function in (check, elaborate, compile_program):
            with self.assertRaises(Mismatch) as caught:
                function(parse(text))
            self.assertEqual(caught.exception.number, number, text)

    def accepts(self, text):
        for function in (check, elaborate, compile_program):
            function(parse(text))

    def test_places(self):
        """Where the types are hidden: outermost, in structures, in sealed structures, in arguments and bodies of functors."""
        many = doubled(20)
        self.refuses(16, doubled(17))
        self.accepts(doubled(12) + "val x = 1")
        for text in (f"structure A = struct {many} end", f"structure A : sig end = struct {many} end", f"structure A :> sig end = struct {many} end",
                     f"structure A = struct structure B = struct {many} end end", f"functor F (X : sig end) = struct end structure A = F (struct {many} end)",
                     f"functor F (X : sig end) = struct {many} end structure A = F (struct end)", f"functor F (X : sig end) = X structure A = F (struct {many} end : sig end)"):
            whole = f"val a = 1 val b = 2 {text} val c = 3"
            self.refuses(3 if "functor" in text else 2, whole)
        self.accepts(f"functor F (X : sig end) = struct {many} end val x = 1")

    def test_what_an_argument_stands_for(self):
        functor = "functor F (X : sig type t end) = struct structure T :> sig type u end = struct type u = X.t * X.t * X.t end val f = fn (x, y) => (y, x) end "
        chain = "structure A0 = F (struct type t = int end) " + "".join(f"structure A{k} = F (struct type t = A{k - 1}.T.u end) " for k in range(1, 14))
        self.refuses(12, functor + chain)
        self.accepts(functor + "structure A0 = F (struct type t = int end) structure A1 = F (struct type t = A0.T.u end) val x = A1.f (1, 2)")
        inner = "functor G (Y : sig type t end) = struct structure A = F (Y) structure B = F (struct type t = A.T.u end) structure C = F (struct type t = B.T.u end) end "
        outer = "structure D0 = G (struct type t = int end) " + "".join(f"structure D{k} = G (struct type t = D{k - 1}.C.T.u end) " for k in range(1, 6))
        self.refuses(5, functor + inner + outer)

    def test_types_of_values_exceptions_and_data(self):
        seal = "structure S :> sig type 'a t val f : 'a -> 'a t end = struct type 'a t = 'a * 'a fun f x = (x, x) end "
        deep = "int" + " S.t" * 18
        self.refuses(1, seal + "val x = " + "S.f (" * 18 + "1" + ")" * 18)
        self.refuses(2, seal + f"val a = 1 exception E of {deep}")
        self.refuses(2, seal + f"val a = 1 datatype d = D of {deep}")
        self.refuses(2, seal + f"val a = 1 structure T = struct datatype d = N | D of {deep} end")
        self.refuses(2, seal + f"val a = 1 val f = fn x => let exception E of {deep} in x end")
        self.refuses(1, seal + f"val f = fn x => (raise x) : {deep} val b = 1")
        for text in (f"type d = {deep}", f"signature G = sig type d = {deep} end", f"functor F (X : sig val x : {deep} end) = struct exception E of {deep} end"):
            self.accepts(seal + text + " val x = 1")


if __name__ == "__main__":
    unittest.main()
