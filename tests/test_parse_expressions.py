"""The grammar of expressions, patterns and types (points 10 to 13, 15 and 16)."""

import unittest

from guanaco.errors import ParseError
from guanaco.parser import parse_expression, parse_ty

A, B, C, X, F = [("var", (name,)) for name in "abcxf"]
NIL = ("con", ("Nil",))
TRUE, FALSE = ("con", ("True",)), ("con", ("False",))
INT, T = ("tycon", ("int",), ()), ("tycon", ("t",), ())
ANY = ("any",)

# The operators from the loosest level to the tightest one, with the names of their functions.
LEVELS = (
    ({"orelse": "", }, "right"), ({"andalso": ""}, "right"), ({":=": "assign"}, "left"),
    ({"=": "equal", "<>": "unequal", "<": "less", "<=": "atmost", ">": "greater", ">=": "atleast"}, "left"),
    ({"::": ""}, "right"), ({"+": "plus", "-": "minus", "^": "concat"}, "left"),
    ({"*": "times", "div": "quotient", "mod": "remainder"}, "left"),
)
OPERATORS = [(sign, name, level) for level, (signs, _) in enumerate(LEVELS) for sign, name in signs.items()]


def app(function, argument):
    return ("app", function, argument)


def pair(*parts):
    return ("tuple", parts)


def cons(first, rest):
    return app(("con", ("Cons",)), pair(first, rest))


def binary(sign, name, first, second):
    if sign == "orelse":
        return ("if", first, TRUE, second)
    if sign == "andalso":
        return ("if", first, second, FALSE)
    if sign == "::":
        return cons(first, second)
    return app(("var", (name,)), pair(first, second))


def fn(pattern, body):
    return ("fn", ((pattern, body),))


def pattern_of(text):
    return parse_expression("fn " + text + " => a")[1][0][0]


class Trees(unittest.TestCase):
    def check(self, cases):
        for text, tree in cases.items():
            self.assertEqual(parse_expression(text), tree, text)


class Atoms(Trees):
    def test_atoms(self):
        self.check({
            "0": ("int", 0), "123456789012345678": ("int", 123456789012345678), '"a\\nb"': ("string", "a\nb"),
            "a": A, "S.T.a": ("var", ("S", "T", "a")), "A": ("con", ("A",)), "S . T": ("con", ("S", "T")),
            "S.A'": ("con", ("S", "A'")), "()": ("tuple", ()), "( )": ("tuple", ()), "(a)": A, "((a))": A,
            "(a, b)": pair(A, B), "(a, b, c)": pair(A, B, C), "((a, b), c)": pair(pair(A, B), C),
            "(a; b)": ("seq", A, B), "(a; b; c)": ("seq", A, ("seq", B, C)), "((a; b); c)": ("seq", ("seq", A, B), C),
            "[]": NIL, "[ ]": NIL, "[a]": cons(A, NIL), "[a, b]": cons(A, cons(B, NIL)),
            "[a, b, c]": cons(A, cons(B, cons(C, NIL))), "[[]]": cons(NIL, NIL), "[(a, b)]": cons(pair(A, B), NIL),
        })

    def test_lists_have_any_number_of_parts(self):
        tree = parse_expression("[" + ", ".join("1" * 14) + "]")
        for _ in range(14):
            self.assertEqual(tree[2][1][0], ("int", 1))
            tree = tree[2][1][1]
        self.assertEqual(tree, NIL)

    def test_let(self):
        self.check({
            "let in a end": ("let", (), A), "let in a; b end": ("let", (), ("seq", A, B)),
            "let in a; b; c end": ("let", (), ("seq", A, ("seq", B, C))),
            "let val x = a in x end": ("let", (("val", ("name", "x"), A),), X),
            "let val x = a; fun f y = b in x end": (
                "let", (("val", ("name", "x"), A), ("fun", (("f", ((("name", "y"), B),)),))), X),
            "let exception E open S.T exception F of int; in x end": (
                "let", (("exception", "E", None), ("open", ("S", "T")), ("exception", "F", INT)), X),
            "f let in a end x": app(app(F, ("let", (), A)), X),
        })


class Operators(Trees):
    def test_each_alone(self):
        for sign, name, _ in OPERATORS:
            self.assertEqual(parse_expression(f"a {sign} b"), binary(sign, name, A, B), sign)

    def test_each_pair_both_ways_round(self):
        for sign, name, level in OPERATORS:
            for other, other_name, other_level in OPERATORS:
                first_in = binary(other, other_name, binary(sign, name, A, B), C)
                second_in = binary(sign, name, A, binary(other, other_name, B, C))
                if level == other_level:
                    wanted = first_in if LEVELS[level][1] == "left" else second_in
                else:
                    wanted = first_in if level > other_level else second_in
                self.assertEqual(parse_expression(f"a {sign} b {other} c"), wanted, (sign, other))

    def test_application_is_tighter(self):
        for sign, name, _ in OPERATORS:
            self.assertEqual(parse_expression(f"f a {sign} f b"), binary(sign, name, app(F, A), app(F, B)), sign)
            self.assertEqual(parse_expression(f"a {sign} !b"), binary(sign, name, A, app(("var", ("get",)), B)))

    def test_application_goes_to_the_left(self):
        self.check({"f a b": app(app(F, A), B), "f (a b)": app(F, app(A, B)), "f a b c": app(app(app(F, A), B), C),
                    "f (a, b)": app(F, pair(A, B)), "f ()": app(F, ("tuple", ())), "f [a]": app(F, cons(A, NIL)),
                    "A B": app(("con", ("A",)), ("con", ("B",))), "1 2": app(("int", 1), ("int", 2)),
                    "S.f x": app(("var", ("S", "f")), X), "f \"a\"": app(F, ("string", "a"))})

    def test_prefixes(self):
        def get(e):
            return app(("var", ("get",)), e)

        def negate(e):
            return app(("var", ("negate",)), e)
        self.check({
            "!a": get(A), "~a": negate(A), "!!a": get(get(A)), "~~a": negate(negate(A)), "!~a": get(negate(A)),
            "f !x": app(F, get(X)), "f ~5": app(F, ("int", -5)), "f ~x": app(F, negate(X)), "!f x": app(get(F), X),
            "~5": ("int", -5), "~ 5": ("int", -5), "~ (* *) 5": ("int", -5), "~0": ("int", 0), "~(5)": negate(("int", 5)),
            "~~5": negate(("int", -5)), "!~5": get(("int", -5)), "~!5": negate(get(("int", 5))),
            "~5 x": app(("int", -5), X), "a - ~5": binary("-", "minus", A, ("int", -5)),
            "a ~5": app(A, ("int", -5)), "~f x": app(negate(F), X), "!(f x)": get(app(F, X)), "![]": get(NIL),
            "~\"a\"": negate(("string", "a")), "!let in a end": get(("let", (), A)), "!A": get(("con", ("A",))),
        })

    def test_long_chains(self):
        tree = parse_expression("a + " * 10 + "a")
        for _ in range(10):
            self.assertEqual(tree[2][1][1], A)
            tree = tree[2][1][0]
        tree = parse_expression("!" * 25 + "a")
        for _ in range(25):
            tree = tree[2]
        self.assertEqual(tree, A)


class Suffixes(Trees):
    def test_typed(self):
        self.check({
            "a : t": ("typed", A, T), "a : t : int": ("typed", ("typed", A, T), INT),
            "a + b : t": ("typed", binary("+", "plus", A, B), T), "a orelse b : t": ("typed", ("if", A, TRUE, B), T),
            "a := b : t": ("typed", binary(":=", "assign", A, B), T), "f a : t": ("typed", app(F, A), T),
            "(a : t) + b": binary("+", "plus", ("typed", A, T), B), "[a : t]": cons(("typed", A, T), NIL),
            "a : t -> t": ("typed", A, ("tyfun", T, T)), "a : t * t": ("typed", A, ("tytuple", (T, T))),
            "(a : t, b)": pair(("typed", A, T), B), "(a : t; b)": ("seq", ("typed", A, T), B),
        })

    def test_handle(self):
        self.check({
            "a handle _ => b": ("handle", A, ((ANY, B),)),
            "a handle E => b | _ => c": ("handle", A, ((("pcon", ("E",), None), B), (ANY, C))),
            "a : t handle _ => b": ("handle", ("typed", A, T), ((ANY, B),)),
            "a handle _ => b : t": ("handle", A, ((ANY, ("typed", B, T)),)),
            "a handle _ => b handle _ => c": ("handle", A, ((ANY, ("handle", B, ((ANY, C),))),)),
            "(a handle _ => b) handle _ => c": ("handle", ("handle", A, ((ANY, B),)), ((ANY, C),)),
            "a + b handle _ => c + x": ("handle", binary("+", "plus", A, B), ((ANY, binary("+", "plus", C, X)),)),
            "a := b handle _ => c": ("handle", binary(":=", "assign", A, B), ((ANY, C),)),
            "(a handle _ => b, c)": pair(("handle", A, ((ANY, B),)), C),
            "let in a handle _ => b end": ("let", (), ("handle", A, ((ANY, B),))),
        })


class Forms(Trees):
    def test_alone(self):
        self.check({
            "fn x => a": fn(("name", "x"), A), "fn x => a | _ => b": ("fn", ((("name", "x"), A), (ANY, B))),
            "case a of x => b": ("case", A, ((("name", "x"), B),)),
            "case a of 1 => b | x => c": ("case", A, ((("pint", 1), B), (("name", "x"), C))),
            "if a then b else c": ("if", A, B, C), "raise a": ("raise", A),
            "if if a then b else c then a else b": ("if", ("if", A, B, C), A, B),
            "case case a of _ => b of _ => c": ("case", ("case", A, ((ANY, B),)), ((ANY, C),)),
            "if a then fn _ => b else c": ("if", A, fn(ANY, B), C),
        })

    def test_take_all_that_follows(self):
        self.check({
            "raise a handle _ => b": ("raise", ("handle", A, ((ANY, B),))), "raise a : t": ("raise", ("typed", A, T)),
            "raise a + b": ("raise", binary("+", "plus", A, B)), "raise raise a": ("raise", ("raise", A)),
            "fn _ => a : t": fn(ANY, ("typed", A, T)), "fn _ => a handle _ => b": fn(ANY, ("handle", A, ((ANY, B),))),
            "fn _ => fn _ => a | _ => b": fn(ANY, ("fn", ((ANY, A), (ANY, B)))),
            "fn _ => (fn _ => a) | _ => b": ("fn", ((ANY, fn(ANY, A)), (ANY, B))),
            "if a then b else c : t": ("if", A, B, ("typed", C, T)),
            "if a then b else c orelse x": ("if", A, B, ("if", C, TRUE, X)),
            "if a then b else if c then x else a": ("if", A, B, ("if", C, X, A)),
            "case a of _ => b + c": ("case", A, ((ANY, binary("+", "plus", B, C)),)),
            "case a of _ => b handle _ => c": ("case", A, ((ANY, ("handle", B, ((ANY, C),))),)),
        })

    def test_last_operands(self):
        forms = {
            "fn _ => a : t": fn(ANY, ("typed", A, T)), "case a of _ => b = c": ("case", A, (
                (ANY, binary("=", "equal", B, C)),)), "if a then b else c :: x": ("if", A, B, cons(C, X)),
            "raise a handle _ => b": ("raise", ("handle", A, ((ANY, B),))),
        }
        for sign, name, _ in OPERATORS:
            for text, tree in forms.items():
                self.assertEqual(parse_expression(f"x {sign} {text}"), binary(sign, name, X, tree), (sign, text))
        self.check({"1 + fn x => x : t": binary("+", "plus", ("int", 1), fn(("name", "x"), ("typed", X, T))),
                    "a * b + fn _ => c": binary("+", "plus", binary("*", "times", A, B), fn(ANY, C)),
                    "a + b * fn _ => c": binary("+", "plus", A, binary("*", "times", B, fn(ANY, C)))})

    def test_no_arguments(self):
        for form in ("fn x => x", "case a of _ => b", "if a then b else c", "raise a"):
            for before in ("f ", "!", "~", "A ", "(f) ", "1 "):
                with self.assertRaises(ParseError) as caught:
                    parse_expression(before + form)
                self.assertEqual(caught.exception.at, len(before))

    def test_in_brackets(self):
        self.check({"f (fn x => x)": app(F, fn(("name", "x"), X)), "(fn x => x) a": app(fn(("name", "x"), X), A),
                    "(raise a) : t": ("typed", ("raise", A), T), "(raise a) + b": binary("+", "plus", ("raise", A), B),
                    "(if a then b else c) orelse x": ("if", ("if", A, B, C), TRUE, X)})


class Patterns(unittest.TestCase):
    def check(self, cases):
        for text, tree in cases.items():
            self.assertEqual(pattern_of(text), tree, text)

    def test_patterns(self):
        x, y, z = [("name", name) for name in "xyz"]
        nil = ("pcon", ("Nil",), None)

        def cons_pattern(first, rest):
            return ("pcon", ("Cons",), ("ptuple", (first, rest)))
        self.check({
            "_": ANY, "x": x, "7": ("pint", 7), "~7": ("pint", -7), "~ 7": ("pint", -7), "~0": ("pint", 0),
            '"a"': ("pstring", "a"), "A": ("pcon", ("A",), None), "S.T.A": ("pcon", ("S", "T", "A"), None),
            "()": ("ptuple", ()), "(x)": x, "(x, y)": ("ptuple", (x, y)), "(x, (y, z))": ("ptuple", (
                x, ("ptuple", (y, z)))), "[]": nil, "[x]": cons_pattern(x, nil),
            "[x, y]": cons_pattern(x, cons_pattern(y, nil)), "x :: y": cons_pattern(x, y),
            "x :: y :: z": cons_pattern(x, cons_pattern(y, z)), "(x :: y) :: z": cons_pattern(cons_pattern(x, y), z),
            "A x": ("pcon", ("A",), x), "S.A x": ("pcon", ("S", "A"), x), "A B": ("pcon", ("A",), ("pcon", ("B",), None)),
            "A ~1": ("pcon", ("A",), ("pint", -1)), "A (B x)": ("pcon", ("A",), ("pcon", ("B",), x)),
            "A x :: y": cons_pattern(("pcon", ("A",), x), y), "x :: A y": cons_pattern(x, ("pcon", ("A",), y)),
            "A []": ("pcon", ("A",), nil), "A [x]": ("pcon", ("A",), cons_pattern(x, nil)),
            "A ()": ("pcon", ("A",), ("ptuple", ())), 'A "s"': ("pcon", ("A",), ("pstring", "s")),
            "A _": ("pcon", ("A",), ANY), "A (x, y)": ("pcon", ("A",), ("ptuple", (x, y))),
            "A (x)": ("pcon", ("A",), x), "A S.B": ("pcon", ("A",), ("pcon", ("S", "B"), None)),
        })


class Types(unittest.TestCase):
    def test_types(self):
        a, unit = ("tyvar", "a"), ("tytuple", ())

        def con(path, *arguments):
            return ("tycon", path, arguments)
        cases = {
            "'a": a, "int": INT, "S.T.t": con(("S", "T", "t")), "unit": unit, "(int)": INT, "(unit)": unit,
            "int -> t": ("tyfun", INT, T), "int -> t -> 'a": ("tyfun", INT, ("tyfun", T, a)),
            "(int -> t) -> 'a": ("tyfun", ("tyfun", INT, T), a), "int * t": ("tytuple", (INT, T)),
            "int * t * 'a": ("tytuple", (INT, T, a)), "(int * t) * 'a": ("tytuple", (("tytuple", (INT, T)), a)),
            "int * (t * 'a)": ("tytuple", (INT, ("tytuple", (T, a)))), "int * t -> 'a * t": (
                "tyfun", ("tytuple", (INT, T)), ("tytuple", (a, T))), "int list": con(("list",), INT),
            "int list list": con(("list",), con(("list",), INT)), "(int, t) u": con(("u",), INT, T),
            "(int, t) S.u list": con(("list",), con(("S", "u"), INT, T)), "(int -> t) list": con(
                ("list",), ("tyfun", INT, T)), "int list * t": ("tytuple", (con(("list",), INT), T)),
            "'a S.t": con(("S", "t"), a), "unit list": con(("list",), unit), "int unit": con(("unit",), INT),
            "S.unit": con(("S", "unit")), "(int, t) unit": con(("unit",), INT, T), "(int) list": con(("list",), INT),
            "((int)) list": con(("list",), INT), "(int, t, t, t, t) u": con(("u",), INT, T, T, T, T),
            "unit * unit -> unit": ("tyfun", ("tytuple", (unit, unit)), unit),
            "(int * t) list": con(("list",), ("tytuple", (INT, T))),
        }
        for text, tree in cases.items():
            self.assertEqual(parse_ty(text), tree, text)


class WholeTexts(unittest.TestCase):
    def test_rest_of_an_expression(self):
        for text, at in {"a )": 2, "a, b": 1, "a; b": 1, "a val": 2, "1 of": 2, "a =>": 2, "fn x => x ]": 10}.items():
            with self.assertRaises(ParseError) as caught:
                parse_expression(text)
            self.assertEqual(caught.exception.at, at, text)

    def test_rest_of_a_type(self):
        for text, at in {"int )": 4, "int, int": 3, "int 'a": 4, "'a 'b": 3, "int = int": 4, "(int, int)": 10}.items():
            with self.assertRaises(ParseError) as caught:
                parse_ty(text)
            self.assertEqual(caught.exception.at, at, text)

    def test_empty(self):
        for parse in (parse_expression, parse_ty):
            for text in ("", "  ", "(* *)"):
                with self.assertRaises(ParseError) as caught:
                    parse(text)
                self.assertEqual(caught.exception.at, len(text))


if __name__ == "__main__":
    unittest.main()
