"""The errors of parsing and their order (points 17, 18 and 30)."""

import unittest

from guanaco.errors import LimitError, ParseError, TokenError
from guanaco.parser import parse, parse_expression, parse_ty


class Faults(unittest.TestCase):
    def check(self, function, cases):
        """Each case is a text with a `@` before the token that cannot follow."""
        for marked in cases:
            at = marked.index("@")
            text = marked.replace("@", "")
            with self.assertRaises(ParseError, msg=text) as caught:
                function(text)
            self.assertEqual(caught.exception.at, at, text)

    def test_expressions(self):
        self.check(parse_expression, [
            "@", "a @)", "(@", "(a@", "(a @]", "(a,@", "(a, @)", "(a;@", "(a; @)", "(a, b @; c)", "(a; b @, c)",
            "(@, a)", "[@", "[a@", "[a @)", "[a, @]", "[a @; b]", "[@, a]", "a +@", "a + @+ b", "@+ a", "a @=> b",
            "a = @= b", "!@", "~@", "! @+ a", "~ @+", "f @fn x => a", "f @raise a", "f @if a then b else c",
            "f @case a of b => c", "!@fn x => x", "a :@", "a : @1", "a : t @= b", "a : t @+ b", "a : t @orelse b",
            "a : t @1", "@: t", "a : int * @1", "x@.y", "x @. y", "S.@", "S.@1", "S.@.T", "S.x@.y", "@.x", "S . @(x)",
            "@_", "@'a", "a @'a", "a @_", "@=", "@val", "@end", "@and", "a @of", "a div@", "@div a",
        ])

    def test_forms(self):
        self.check(parse_expression, [
            "fn@", "fn @=> a", "fn x@", "fn x @= a", "fn x =>@", "fn x => @|", "fn @| x => a", "fn x => a |@",
            "fn x => a | @=>", "fn x @y", "case@", "case a@", "case a @then", "case a of@", "case a of @| x => a",
            "case a of x @: t => a", "case @of", "if@", "if a@", "if a @else b", "if a then@", "if a then b@",
            "if a then b @then", "if a then b else@", "if @then a else b", "raise@", "raise @)", "a handle@",
            "a handle x@", "a handle x => @handle", "@handle x => a", "let@", "let @a in b end", "let in@", "let in @end",
            "let in a@", "let in a;@", "let in a; @end", "let in a @, b end", "let @; in a end", "let val x = a;@",
            "let val x = a; @; in b end", "let open S.@x in a end", "let open @x in a end",
            "let exception @e in a end", "let fun f x @=> a in b end", "let val x = a @end",
        ])

    def test_patterns(self):
        self.check(parse_expression, [
            "fn @)", "fn (@", "fn (x@", "fn (x @; y) => a", "fn (x,@", "fn (x, @) => a", "fn [x@", "fn [x @) => a",
            "fn [x, @] => a", "fn x ::@", "fn x :: @=> a", "fn @:: x => a", "fn ~@", "fn ~@x => a", "fn ~@~1 => a",
            "fn A B @c => a", "fn A B @C => a", "fn x @y => a", "fn S.@x => a", "fn S.@", "fn x@.y => a", "fn A . @b",
            "fn (x, @x) => a", "fn x :: @x => a", "fn [x, y, @x] => a", "fn A (x, B @x) => a", "fn (x, (y, [@y])) => a",
            "fn (x @: t) => a", "fn @!x => a", "fn @'a => a", "fn A @+ => b", "fn 1 @2 => b", "fn A [x, @x] => a",
        ])

    def test_names_may_be_used_again_in_another_pattern(self):
        for text in ("fn x => fn x => x", "fn (x, y) => a | (y, x) => b", "case a of x => b | x => c"):
            parse_expression(text)
        parse("fun f x x = 1 and g x = 2")

    def test_types(self):
        self.check(parse_ty, [
            "@", "@->", "int ->@", "int -> @->", "int *@", "int * @*", "@*", "(@", "(@)", "(int@", "(int,@", "(int, @)",
            "(int, t)@", "(int, t) @-> t", "(int, t) @* t", "(int, t) @'a", "(int, t) @(t)", "S@", "S.@", "S.S@", "S @t",
            "S.@1", "S.t@.u", "t@.u", "int @1", "@1", "'a @'b", "@_", "int @(t)", "@[", "int @, t", "@fn", "int @val",
            "int S@", "(int, t) S@", "(int @; t) u", "(int -> @) t", "(int @",
        ])

    def test_values(self):
        self.check(parse, [
            "@1", "@x", "@end", "@;", "val x = 1; @;", "val@", "val x@", "val @= 1", "val x =@", "val x @: t = 1",
            "val x = 1 @in", "val x = 1 @and y = 2", "val (x, @x) = 1", "fun@", "fun @F x = 1", "fun f@", "fun f @= 1",
            "fun f x@", "fun f x =@", "fun f x @: t = 1", "fun f x = 1 |@", "fun f x = 1 | @g x = 1", "fun f x = 1 | f@",
            "fun f x = 1 | f x @y = 1", "fun f p = 1 | f p @q = 1", "fun f x y = 1 @| f x y = 2",
            "fun f x y = 1 @| f x = 2", "fun f x = 1 | @1", "fun f x = 1 and@", "fun f x = 1 and @F y = 2",
            "fun f x @:: y = 1", "fun f (x, @x) = 1", "fun f A x = 1 @| f _ = 2", "fun f 0 = case x of 1 => 2 | f @1 = 3",
            "fun f x = 1 @=> 2", "fun f (x @= 1", "fun f x = 1 and g x = 1 | @f x = 2", "fun @1 x = 2",
        ])

    def test_types_and_exceptions(self):
        self.check(parse, [
            "datatype@", "datatype @T = A", "datatype t@", "datatype t @A", "datatype t =@", "datatype t = @a",
            "datatype t = @| A", "datatype t = A |@", "datatype t = A | @b", "datatype t = A of@",
            "datatype t = A of @| B", "datatype t = A @'a", "datatype (@) t = A", "datatype ('a, @'a) t = A",
            "datatype ('a @'b) t = A", "datatype ('a, @) t = A", "datatype (@a) t = A", "datatype 'a @'b t = A",
            "datatype t = A and@", "datatype t = A and @U = B", "datatype t = A @B", "datatype 'a@", "type@", "type t@",
            "type @T = int", "type t =@", "type t = @1", "type (@) t = int", "type 'a @= int",
            "type ('a, 'b, @'a) t = int", "type ('a@", "exception@", "exception @e", "exception E @int",
            "exception E of@", "exception E of @1", "exception E @= F", "exception E@.F", "open@", "open @x", "open S.@x",
            "open S.@", "open S @= T", "open S @T", "open S; @;", "open@;"
        ])

    def test_structures(self):
        self.check(parse, [
            "structure@", "structure @s = S", "structure S@", "structure S @T", "structure S =@", "structure S = @s",
            "structure S = S.@t", "structure S = @(S)", "structure S = S.T @(S)", "structure S = F (@",
            "structure S = F (@)", "structure S = F (S@", "structure S = F (S @, S)", "structure S = F (S) @(S)",
            "structure S = F (@f)", "structure S = struct@", "structure S = struct val x = 1@",
            "structure S = struct @1 end", "structure S = struct @signature G = H end",
            "structure S = struct @functor F (X : G) = S end", "structure S = struct @; end",
            "structure S = struct structure T = struct @signature G = H end end", "structure S :@",
            "structure S : @g = S", "structure S : G@", "structure S : G @: H = S", "structure S = T :@",
            "structure S = T : @s", "structure S = T :>@", "structure S = T : G@.H", "structure S = @sig end",
            "structure S : @struct end = S", "structure S = @1", "structure S = T @where type t = int",
        ])

    def test_functors(self):
        self.check(parse, [
            "functor@", "functor @f (X : G) = S", "functor F@", "functor F @X : G = S", "functor F (@x : G) = S",
            "functor F (X@", "functor F (X @) = S", "functor F (X :@", "functor F (X : @g) = S", "functor F (X : G@",
            "functor F (X : G @, Y : H) = S", "functor F (X : G)@", "functor F (X : G) @S", "functor F (X : G) =@",
            "functor F (X : G) : H @: I = S", "functor F (X @:> G) = S", "functor F (@) = S",
        ])

    def test_signatures(self):
        self.check(parse, [
            "signature@", "signature @g = G", "signature G@", "signature G @: H", "signature G =@", "signature G = @g",
            "signature G = G@.H", "signature G = sig@", "signature G = sig @1 end", "signature G = sig @; end",
            "signature G = sig @fun f x = 1 end", "signature G = sig @open S end",
            "signature G = sig @signature H = I end", "signature G = sig val@", "signature G = sig val @X : t end",
            "signature G = sig val x @= 1 end", "signature G = sig val x :@", "signature G = sig val x : t; @; end",
            "signature G = sig type@", "signature G = sig type @T end", "signature G = sig type (@) t end",
            "signature G = sig type ('a, @'a) t end", "signature G = sig type t =@", "signature G = sig type t = @end",
            "signature G = sig datatype t @end", "signature G = sig exception @e end",
            "signature G = sig exception E of @end", "signature G = sig structure @s : G end",
            "signature G = sig structure S @= T end", "signature G = sig structure S :@",
            "signature G = sig structure S : @s end", "signature G = H where@", "signature G = H where @t = int",
            "signature G = H where type@", "signature G = H where type T @= int", "signature G = H where type S.T @= int",
            "signature G = H where type t@", "signature G = H where type t =@",
            "signature G = H where type ('a, @'a) t = int", "signature G = H where type (@) t = int",
            "signature G = H @: I",
        ])

    def test_what_stands_in_a_let(self):
        for declaration in ("datatype t = A", "type t = int", "structure S = T", "signature G = H",
                            "functor F (X : G) = S"):
            self.check(parse_expression, [f"let @{declaration} in a end", f"let val x = 1 @{declaration} in a end",
                                          f"let val x = 1; @{declaration} in a end"])
        parse_expression("let val x = 1 fun f x = x exception E open S in a end")


class Order(unittest.TestCase):
    def test_token_errors_come_before_parse_errors(self):
        for text in (") #", "val = #", "( \"a", "1 00"):
            for function in (parse, parse_expression, parse_ty):
                with self.assertRaises(TokenError):
                    function(text)

    def test_the_length_comes_first(self):
        for function in (parse, parse_expression, parse_ty):
            for text in (")" + " " * 4000, "#" + " " * 4000):
                with self.assertRaises(LimitError):
                    function(text)

    def test_parse_errors_come_before_limits(self):
        cases = ["(1, 1, 1, 1, 1, 1, 1", "f " * 1000 + ")", "(" * 60 + "1" + ")" * 59 + "]", "!" * 3000,
                 "fn " + " | ".join(["x => x"] * 17) + " )", "(1, 1, 1, 1, 1, 1, 1) val"]
        for text in cases:
            with self.assertRaises(ParseError):
                parse_expression(text)
        for text in ("datatype ('a, 'b, 'c, 'd, 'e) t = A val", "val x = 1 " * 61 + "val"):
            with self.assertRaises(ParseError):
                parse(text)

    def test_open_constructs_come_at_once(self):
        for text in ("(" * 61, "[" * 61 + ")", "(" * 61 + " )", "fn x => " * 61, "raise " * 61 + "val",
                     "(" * 60 + "fn"):
            with self.assertRaises(LimitError):
                parse_expression(text)

    def test_a_wrong_token_comes_before_its_construct(self):
        with self.assertRaises(ParseError) as caught:
            parse_expression("(" * 60 + "f fn x => x")
        self.assertEqual(caught.exception.at, 62)

    def test_60_open_constructs_are_an_error_of_depth_behind_errors_of_the_text(self):
        with self.assertRaises(ParseError):
            parse_expression("(" * 60)
        with self.assertRaises(ParseError):
            parse_expression("raise " * 60)


if __name__ == "__main__":
    unittest.main()
