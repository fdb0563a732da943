"""Printing (point 19)."""

import random
import unittest

from generate import Maker
from guanaco.errors import LimitError
from guanaco.parser import parse, parse_expression, parse_ty
from guanaco.printer import print_expression, print_program, print_ty
from guanaco.trees import size
from support import block

# Short texts for each form of expression; they are put within one another.
EXPRESSIONS = (
    "1", "~1", '"a\\n\\"\\\\"', "x", "S.x", "A", "S.A", "[]", "()", "(1,2)", "f x", "fn x=>y", "fn 1=>x|_=>y",
    "case x of y=>z", "case x of 1=>y|_=>z", "if x then y else z", "let in x end", "let val x=y in z end",
    "let fun f x=y|f z=x and g y=x exception E exception F of int open S.T in x end", "(x;y)", "(x;y;z)", "((x;y);z)",
    "raise x", "x handle _=>y", "x handle A=>y|B z=>z", "x:int", "x:int:'a", "x+y", "x-y", "x^y", "x*y", "x div y",
    "x mod y", "x=y", "x<>y", "x<y", "x<=y", "x>y", "x>=y", "x:=y", "x::y", "[x,y]", "x orelse y", "x andalso y", "!x",
    "~x", "~(1)", "plus x", "get", "plus(x,y,z)", "Cons x", "Cons(x,y,z)", "S.plus(x,y)", "if x then True else False",
    "fn x=>fn y=>z", "if x then True else y",
)
PATTERNS = (
    "_", "x", "1", "~1", '"a"', "A", "S.A", "A x", "A(x,y)", "A(B x)", "()", "(x,y)", "x::y", "(x::y)::z", "x::y::z",
    "[]", "[x]", "[x,y]", "A[]", "A(x::y)", "Cons x", "Cons(x,y,z)", "A x::y", "x::[y]",
)
TYPES = (
    "'a", "int", "S.t", "unit", "int list", "int S.t", "(int,'a)t", "(int,'a,unit)S.t", "int*int", "int*(int*int)",
    "(int*int)*int", "int->int", "int->int->int", "(int->int)->int", "int*int->int", "(int->int)*int", "(int->int)t",
    "(int*int)t", "int t t", "((int,int)t,int)t",
)
DECLARATIONS = (
    "val x=1", "val(x,y)=1", "fun f x=y", "fun f x y=z", "fun f 1=x|f _=y", "fun f x=y and g 1 y=z", "datatype t=A",
    "datatype 'a t=A|B of 'a and('a,'b)u=C of int*int", "type t=int", "type 'a t='a", "type('a,'b)t='a->'b",
    "exception E", "exception E of int->int", "open S", "open S.T", "structure S=T", "structure S=T.U",
    "structure S=struct end", "structure S=struct val x=1 fun f x=x end", "structure S=F(T)", "structure S=F(struct end)",
    "structure S:G=T", "structure S:>G=T", "structure S=T:G:>H:I", "structure S=F(T:G):>H", "structure S:sig end=struct end",
    "signature S=T", "signature S=sig end", "signature S=sig val x:int type t type 'a t='a datatype t=A exception E "
    "exception F of int structure S:T end", "signature S=T where type t=int where type('a,'b)S.t='a",
    "functor F(X:S)=T", "functor F(X:sig val x:int end):>G=struct end", "structure S:G where type t=int->int=T",
)


def texts_within(texts, frames):
    return [frame.replace("@", text) for text in texts for frame in frames]


class RoundTrips(unittest.TestCase):
    def check(self, reader, printer, text):
        tree = reader(text)
        printed = printer(tree)
        self.assertEqual(reader(printed), tree, (text, printed))
        self.assertLessEqual(len(printed), 10 * len(text) + 20, (text, printed))
        return printed

    def test_expressions_alone_and_within_each_other(self):
        frames = ("@", "f(@)", "(@)f", "(@,x)", "((@);x)", "(x;(@))", "fn z=>(@)", "fn 1=>(@)|_=>y", "fn 1=>y|_=>(@)",
                  "case(@)of x=>y", "case x of 1=>(@)|y=>z", "case x of y=>(@)", "if(@)then x else y",
                  "if x then(@)else y", "if x then y else(@)", "let val x=(@)val y=x in z end",
                  "let fun f 1=(@)|f x=y and g x=y in z end", "let fun f x=y and g x=(@)in z end", "let in(@)end",
                  "raise(@)", "(@)handle x=>y", "x handle 1=>(@)|_=>y", "x handle y=>(@)", "(@):int", "(@)+x", "x+(@)",
                  "(@)*x", "x*(@)", "(@)=x", "x=(@)", "(@):=x", "x:=(@)", "(@)::x", "x::(@)", "[(@),x]", "[x,(@)]",
                  "(@)orelse x", "x orelse(@)", "(@)andalso x", "x andalso(@)", "!(@)", "~(@)", "A(@)", "Cons(@)",
                  "plus(@)", "(f(@))(@)", "((@)+x)(@)")
        for text in texts_within(EXPRESSIONS, frames):
            self.check(parse_expression, print_expression, text)

    def test_three_levels(self):
        frames = ("(@)f", "f(@)", "(@)+x", "x+(@)", "(@)::x", "x::(@)", "fn 1=>(@)|_=>y", "(@)handle x=>y", "(@):int",
                  "raise(@)", "if x then y else(@)", "!(@)", "~(@)", "(@)orelse x", "x andalso(@)", "case(@)of x=>(@)")
        for text in texts_within(texts_within(EXPRESSIONS, frames), frames):
            self.check(parse_expression, print_expression, text)

    def test_patterns(self):
        frames = ("@", "(@)::z1", "z1::(@)", "A(@)", "[@]", "[z1,(@)]", "(z1,(@))", "((@),z1)", "Cons(@)", "A((@),1)")
        for text in texts_within(PATTERNS, frames):
            for around in ("fn @=>y1", "case x1 of 1=>x1|(@)=>y1", "let val @=y1 in x1 end", "let fun f(@)=x1 in y1 end",
                           "let fun f(@)_=x1 in y1 end", "let fun f 1=x1|f(@)=y1 in y1 end"):
                self.check(parse_expression, print_expression, around.replace("@", text))

    def test_types(self):
        frames = ("@", "(@)t", "((@),int)t", "(int,(@))t", "(@)*int", "int*(@)", "(@)->int", "int->(@)")
        for text in texts_within(texts_within(TYPES, frames), frames):
            self.check(parse_ty, print_ty, text)
        for text in TYPES:
            self.check(parse_expression, print_expression, "x:(" + text + ")")

    def test_declarations(self):
        for text in DECLARATIONS:
            self.check(parse, print_program, text)
            for other in DECLARATIONS:
                self.check(parse, print_program, text + " " + other)
        for text in DECLARATIONS:
            if not text.startswith(("signature", "functor")):
                self.check(parse, print_program, f"structure S=F(struct {text} {text} end):G")
                self.check(parse, print_program, f"functor F(X:G)=struct {text} end")

    def test_empty_program(self):
        self.assertEqual(parse(print_program(())), ())
        self.assertLessEqual(len(print_program(())), 20)

    def test_random_trees(self):
        for seed in range(1500):
            maker = Maker(random.Random(seed))
            depth = 2 + seed // 300
            for tree, printer, reader in ((maker.expression(depth), print_expression, parse_expression),
                                          (maker.ty(depth), print_ty, parse_ty),
                                          (tuple(maker.outermost(depth) for _ in range(2)), print_program, parse)):
                try:
                    text = printer(tree)
                except LimitError:
                    continue
                self.assertLessEqual(size(tree)[0], 800)
                self.assertEqual(reader(text), tree, text)
                self.assertEqual(printer(tree), text)

    def test_equal_trees_have_equal_texts(self):
        for first, second in (("f(x)+y", "(f x) + (y)"), ("[1,2]", "1 :: 2 :: []"), ("a orelse b", "if a then True else b"),
                              ("~ 5", "~5"), ("!x", "get x"), ("plus(1, 2)", "1+2"), ("(a;b;c)", "(a;(b;c))")):
            self.assertEqual(print_expression(parse_expression(first)), print_expression(parse_expression(second)))
        for first, second in (("fun f x y=1", "fun f x=fn y=>1"), ("structure S:G=T", "structure S=T:G")):
            self.assertEqual(print_program(parse(first)), print_program(parse(second)))

    def test_deep_trees(self):
        for text in ("fn x=>" * 29 + "x", "!" * 29 + "x", "raise " * 29 + "x", "x" + " x" * 29, "x" + ":t" * 29,
                     "(" * 14 + "fn x=>x" + ")y" * 14, "case " * 29 + "x" + " of x=>x" * 29, "x" + "+x" * 14,
                     "fn 1=>(" * 29 + "x" + ")|_=>x" * 29, "f(raise " * 14 + "x" + ")" * 14,
                     "(" * 14 + "x" + " handle x=>x)+1" * 9 + ")" * 5, "1+(fn x=>" * 9 + "x" + ")" * 9,
                     "[" * 14 + "x" + "]" * 14, "(" * 28 + "x" + ",y)" * 28, "(" * 28 + "x" + ";y)" * 28,
                     "let val x=" * 14 + "y" + " in x end" * 14):
            self.check(parse_expression, print_expression, text)
        for text in ("t->" * 29 + "t", "t" + " t" * 29, "(" * 28 + "t" + "->t)" * 28, "(" * 14 + "t" + "*t)t" * 14):
            self.check(parse_ty, print_ty, text)


class Limits(unittest.TestCase):
    def test_only_texts_that_are_too_long(self):
        for reader, printer, before in ((parse_expression, print_expression, ""), (parse, print_program, "val x = ")):
            text = before + '"' + "a" * (4000 - len(before) - 2) + '"'
            tree = reader(text)
            self.assertEqual(reader(printer(tree)), tree)
        with self.assertRaises(LimitError):
            print_expression(("string", "a" * 3999))
        with self.assertRaises(LimitError):
            print_program((("val", ("any",), ("string", "\n" * 2000)),))
        with self.assertRaises(LimitError):
            print_expression(("tuple", tuple(("string", "a" * 700) for _ in range(6))))
        self.assertEqual(print_expression(("string", "\n" * 1999)), '"' + "\\n" * 1999 + '"')

    def test_large_trees(self):
        for text in (block(800), "fn x => " + block(798, "x"), block(799, "~1")):
            tree = parse_expression(text)
            self.assertEqual(parse_expression(print_expression(tree)), tree)
        tree = parse_ty(block(800, "t", "*"))
        self.assertEqual(parse_ty(print_ty(tree)), tree)
        wide = "x" * 24
        parts = ("tuple", tuple(("var", (wide,)) for _ in range(6)))
        small = ("tuple", (parts,) * 6)
        large = ("tuple", (small,) * 5)
        self.assertEqual(parse_expression(print_expression(small)), small)
        with self.assertRaises(LimitError):
            print_expression(large)
        with self.assertRaises(LimitError):
            print_ty(("tytuple", (("tytuple", (("tytuple", (("tycon", (wide,), ()),) * 6),) * 6),) * 6))

    def test_long_and_short(self):
        # The shortest texts of these trees are short enough that the printed ones must not be too long.
        for text in ("val x=1 " * 60, "x" + "+x" * 14, " ".join(["val x=" + block(11)] * 50)):
            tree = parse(text) if text.startswith("val") else parse_expression(text)
            printed = print_program(tree) if text.startswith("val") else print_expression(tree)
            self.assertLessEqual(len(printed), 10 * len(text) + 20)


if __name__ == "__main__":
    unittest.main()
