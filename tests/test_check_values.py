"""The types of expressions and of values (points 4, 20, 21, 23 and 26 to 29)."""

from checking import CheckTests, bindings_of, data_of, type_of
from guanaco.checker import check, principal
from guanaco.errors import Mismatch, ScopeError, SignatureError, Uncovered, Unused
from guanaco.monos import nodes
from guanaco.parser import parse, parse_expression


class Start(CheckTests):
    def test_primitives(self):
        self.has_type({
            "plus": "int * int -> int", "minus": "int * int -> int", "times": "int * int -> int",
            "quotient": "int * int -> int", "remainder": "int * int -> int", "negate": "int -> int",
            "equal": "int * int -> bool", "unequal": "int * int -> bool", "less": "int * int -> bool",
            "atmost": "int * int -> bool", "greater": "int * int -> bool", "atleast": "int * int -> bool",
            "concat": "string * string -> string", "size": "string -> int", "code": "string * int -> int",
            "same": "string * string -> bool", "digits": "int -> string", "print": "string -> unit",
            "ref": "'a -> 'a ref", "get": "'a ref -> 'a", "assign": "'a ref * 'a -> unit",
        })

    def test_constructors_and_exceptions(self):
        self.has_type({"True": "bool", "False": "bool", "[]": "'a list", "Cons": "'a * 'a list -> 'a list",
                       "Overflow": "exn", "Div": "exn", "Size": "exn", "Subscript": "exn"})

    def test_operators(self):
        self.has_type({
            "1 + 2 * 3 - 4 div 5 mod 6": "int", '"a" ^ "b"': "string", "1 = 2": "bool", "1 <> 2": "bool",
            "1 < 2 orelse 1 <= 2 andalso 1 > 2": "bool", "1 >= 2": "bool", "ref 1 := 2": "unit", "!(ref 1)": "int",
            "~(1 + 2)": "int", "1 :: []": "int list", "[1, 2]": "int list", "[]": "'a list",
        })
        self.has_none('1 + "a"', '"a" + "b"', "1 ^ 2", '"a" = "b"', "True = False", "1 := 2", "!1", '~"a"', '1 :: ["a"]',
                      "[1, True]", "1 orelse True", "True andalso 1")

    def test_data(self):
        bindings, data = check(())
        self.assertEqual(bindings, ())
        list_a = ("con", "list", (("var", "a"),))
        self.assertEqual(data, (("bool", (), (("False", None), ("True", None))), (
            "list", ("a",), (("Nil", None), ("Cons", ("tuple", (("var", "a"), list_a)))))))

    def test_names_can_be_declared_again(self):
        self.assertEqual(bindings_of('fun plus (a, b) = a ^ b val x = "a" + "b"')["x"], "string")
        self.assertEqual(bindings_of("datatype 'a t = Nil | Cons of 'a * 'a t val x = [1]")["x"], "int t")
        self.rejects(Mismatch, 1, "datatype bool = True | False val x = if True then 1 else 2")
        self.rejects(Mismatch, 1, "datatype int = A val x = 1 : int")
        self.assertEqual(bindings_of("datatype int = A val x = A val y = 1"), {"x": "int", "y": "int"})


class Expressions(CheckTests):
    def test_constants(self):
        self.has_type({"2000000000": "int", "~2000000000": "int", '"' + "a" * 200 + '"': "string", "()": "unit",
                       "(1, ())": "int * unit", "fn 2000000000 => 1 | _ => 2": "int -> int",
                       'fn "' + "a" * 200 + '" => 1 | _ => 2': "string -> int"})
        self.has_none("2000000001", "~2000000001", "999999999999999999", '"' + "a" * 201 + '"',
                      "fn 2000000001 => 1 | _ => 2", "fn ~2000000001 => 1 | _ => 2", 'fn "' + "a" * 201 + '" => 1 | _ => 2')

    def test_functions(self):
        self.has_type({
            "fn x => x": "'a -> 'a", "fn x => 1": "'a -> int", "fn f => fn x => f x": "('a -> 'b) -> 'a -> 'b",
            "fn (x, y) => (y, x)": "'a * 'b -> 'b * 'a", "fn x => fn y => x": "'a -> 'b -> 'a",
            "fn f => fn g => fn x => f (g x)": "('a -> 'b) -> ('c -> 'a) -> 'c -> 'b", "(fn x => x) 1": "int",
            "fn 1 => True | _ => False": "int -> bool", "fn x => x + 1": "int -> int", "fn x :: r => x | [] => 1":
            "int list -> int", "fn () => ()": "unit -> unit", "fn f => f (f 1)": "(int -> int) -> int",
        })
        self.has_none("fn x => x x", "1 2", "(fn x => x + 1) True", "fn 1 => 1 | True => 2", "fn 1 => 1 | _ => True",
                      "fn f => (f 1, f True)", "fn x => (x, x + 1, x ^ x)")

    def test_each_form(self):
        self.has_type({
            "case 1 of 1 => True | _ => False": "bool", "case (1, True) of (x, y) => (y, x)": "bool * int",
            "if True then 1 else 2": "int", "(1; True)": "bool", "fn x => (x; x)": "'a -> 'a", "raise Div": "'a",
            "fn e => raise e": "exn -> 'a", "1 handle _ => 2": "int", "1 handle Div => 2 | e => raise e": "int",
            "(raise Div) handle Div => 1": "int", "1 : int": "int", "(fn x => x) : int -> int": "int -> int",
            "fn x => x : int": "int -> int", "let in 1 end": "int", "let val x = 1 in x + x end": "int",
            "let exception E of int in E end": "int -> exn", "let exception E in raise E end": "'a",
            "let fun f x = x in (f 1, f True) end": "int * bool", "fn x => [x, x]": "'a -> 'a list",
        })
        self.has_none(
            "case 1 of True => 1 | _ => 2", "case 1 of 1 => 1 | _ => True", "if 1 then 2 else 3", "if True then 1 else True",
            "raise 1", "1 handle 1 => 2 | _ => 3", "1 handle _ => True", "True : int", "(fn x => x) : int -> bool",
            "let exception E of int in raise E end", "let exception E in E 1 end", "let val x = True in x + 1 end")

    def test_patterns(self):
        self.has_type({
            "fn _ => 1": "'a -> int", "fn (1, True) => 1 | _ => 2": "int * bool -> int", 'fn "a" => 1 | _ => 2':
            "string -> int", "fn [x, y] => x | _ => 1": "int list -> int", "fn Div => 1 | _ => 2": "exn -> int",
            "fn x :: y => y | [] => []": "'a list -> 'a list", "let exception E of int in fn E x => x | _ => 1 end":
            "exn -> int",
        })
        self.has_none("fn (x, y) => x | (x, y, z) => x", "fn () => 1 | (x, y) => 1", "fn [1, True] => 1 | _ => 2",
                      "fn Div => 1 | True => 2 | _ => 3", "fn True x => 1 | _ => 2", "fn Cons => 1 | _ => 2",
                      "fn Div 1 => 1 | _ => 2", "let exception E of int in fn E => 1 | _ => 2 end")

    def test_data_types(self):
        program = "datatype ('a, 'b) t = A | B of 'a | C of 'b * ('a, 'b) t val "
        for text, ty in {
            "x = A": "('a, 'b) t", "x = B 1": "(int, 'a) t", "x = C (True, B 1)": "(int, bool) t", "x = B": "'a -> ('a, 'b) t",
            "x = fn A => 1 | B x => x | C (_, A) => 2 | C (_, B y) => y | C _ => 3": "(int, 'a) t -> int",
        }.items():
            self.assertEqual(bindings_of(program + text)["x"], ty)
        self.rejects(Mismatch, 1, program + "x = C (1, 2)", program + "x = A 1", program + "x = [B 1, B True]")
        self.assertEqual(data_of(program + "x = A"), ["a b t = A B of 'a C of 'b * ('a, 'b) t"])

    def test_aliases(self):
        self.assertEqual(bindings_of("type ('a, 'b) p = 'b * 'a type t = (int, bool) p val x = (True, 1) : t")["x"], "bool * int")
        self.rejects(Mismatch, 1, "type 'a p = 'a * 'a val x = (1, True) : int p")
        self.accepts("type 'a k = int val x = 1 : bool k")

    def test_exceptions(self):
        self.accepts("exception E of int val x = (raise E 1) handle E n => n | _ => 2",
                     "exception E exception E of bool val x = E True")
        self.rejects(Mismatch, 1, "exception E of int val x = E True", "exception E val x = E 1")


class Generalizing(CheckTests):
    def test_value_forms(self):
        for text in ("fn x => x", "[]", "(fn x => x, 1)", "id", "[fn x => x]", "Some id", "(id, [id], Some [])",
                     "Cons", "(1, (\"a\", id))", "S.id"):
            program = f"fun id x = x datatype 'a o = Some of 'a structure S = struct fun id x = x end val v = {text}"
            self.assertIn("'a", bindings_of(program)["v"], text)
        self.assertEqual(bindings_of("datatype t = A of int list val x = ([] , A []) ")["x"], "'a list * t")

    def test_typed_value_forms(self):
        self.assertEqual(bindings_of("type t = int val (x, y) = ([], 1 : t)")["x"], "'a list")
        self.assertEqual(bindings_of("val x = fn y => ([], y : int)")["x"], "int -> 'a list * int")
        self.assertEqual(bindings_of("val (x, y) = ((fn z => z), (fn z => z) : int -> int)"), {
            "x": "'a -> 'a", "y": "int -> int"})

    def test_other_forms(self):
        for text in ("id []", "ref []", "let in [] end", "if True then [] else []", "(1; [])", "case 1 of _ => []",
                     "[] handle _ => []", "get (ref [])", "(1, id [])", "Some (id [])", "raise Div"):
            program = f"fun id x = x datatype 'a o = Some of 'a val v = {text}"
            self.assertNotIn("'", bindings_of(program)["v"], text)
        self.rejects(Mismatch, 2, "fun id x = x val v = id id val w = v 1")
        self.assertEqual(bindings_of("fun id x = x val v = id id val w = v ()")["v"], "unit -> unit")

    def test_an_applied_exception_is_no_value_form(self):
        self.assertEqual(bindings_of("exception E of int val (x, y) = (fn z => z, E 1)")["x"], "unit -> unit")
        self.assertEqual(bindings_of("exception E of int val (x, y) = (fn z => z, E)")["x"], "'a -> 'a")
        self.assertEqual(bindings_of("exception E val (x, y) = (fn z => z, Div)")["x"], "'a -> 'a")

    def test_each_name_of_a_pattern(self):
        self.assertEqual(bindings_of("val (f, g) = (fn x => x, fn x => fn y => x)"), {
            "f": "'a -> 'a", "g": "'a -> 'b -> 'a"})
        self.has_type({"let val (f, g) = (fn x => x, fn x => x) in (f 1, f True, g 1, g True) end": "int * bool * int * bool"})

    def test_names_around(self):
        self.has_type({
            "fn x => let val y = x in (y, y) end": "'a -> 'a * 'a",
            "fn x => let val f = fn y => (x, y) in (f 1, f True) end": "'a -> ('a * int) * ('a * bool)",
            "fn x => let fun f y = x in (f 1, f True) end": "'a -> 'a * 'a",
            "let val r = ref [] in (r := [1]; r) end": "int list ref",
            "let val r = ref [] val f = fn x => !r in (r := [1]; f) end": "'a -> int list",
            "fn x => let val y = (x, []) in y end": "'a -> 'a * 'b list",
        })
        self.has_none("fn x => let val f = fn y => x in (f 1 + 1, f 1 ^ \"a\") end",
                      "let val r = ref [] in (r := [1]; r := [True]) end",
                      "let val r = ref [] val f = fn x => !r in (r := [1]; f () : bool list) end",
                      "fn f => let val g = f in (g 1, g True) end",
                      "let fun f x = let val g = f in (g 1, g True) end in f end")

    def test_names_that_became_parts_of_others(self):
        """Variables in what a name around is made equal to, or in a name without quantified variables, are not quantified."""
        self.has_none(
            'fn x => let val f = fn z => if True then x else [z] in (f 1, f "a") end',
            'fn x => let val f = fn z => if True then x else (z, [z]) in (f 1, f "a") end',
            'let val r = ref [] val f = fn z => r in (f () := [1]; f () := ["a"]) end',
            'let val (r, _) = (ref [], 1) val f = fn z => (z, !r) in (r := [1]; case f () of (_, [s]) => s ^ "" | _ => "") end',
            'fn x => let val y = (fn z => [z]) x val f = fn _ => y in (1 :: f (), "a" :: f ()) end')
        self.has_type({"fn x => let val f = fn z => (x, z) in (f 1, f True) end": "'a -> ('a * int) * ('a * bool)"})

    def test_functions_of_one_fun(self):
        self.assertEqual(bindings_of("fun f x = g x and g x = x"), {"f": "'a -> 'a", "g": "'a -> 'a"})
        self.assertEqual(bindings_of("fun even 0 = True | even n = odd (n - 1) and odd 0 = False | odd n = even (n - 1)"),
                         {"even": "int -> bool", "odd": "int -> bool"})
        self.rejects(Mismatch, 0, "fun f x = x and g y = (f 1, f True)", "fun f x = f", "fun f x = g x and g x = (f x + 1, g True)")
        self.accepts("fun f x = x and g y = f y val z = (f 1, f True, g 1, g True)")
        self.assertEqual(bindings_of("fun f n y = if n = 0 then y else f (n - 1) y"),
                         {"f": "int -> 'a -> 'a"})

    def test_hidden_names(self):
        self.assertEqual(bindings_of("val x = 1 val y = x val x = True val z = x"), {"y": "int", "x": "bool", "z": "bool"})
        self.assertEqual(list(bindings_of("val a = 1 val b = 2 val a = 3")), ["b", "a"])
        self.assertEqual(list(bindings_of("val (a, b) = (1, 2) fun c x = x and d x = x")), ["a", "b", "c", "d"])
        self.assertEqual(bindings_of("structure S = struct val x = True end val x = 1 open S val y = x"), {
            "x": "int", "y": "bool"})


class LeftOver(CheckTests):
    def test_outermost(self):
        self.assertEqual(bindings_of("val r = ref []"), {"r": "unit list ref"})
        self.rejects(Mismatch, 1, "val r = ref [] val s = r := [1]")
        self.accepts("val r = ref [] val s = r := [()]")
        self.assertEqual(bindings_of("val x = raise Div"), {"x": "unit"})
        self.assertEqual(bindings_of("val (r, f) = (ref [], fn x => x)"), {"r": "unit list ref", "f": "unit -> unit"})

    def test_within_one_declaration(self):
        self.assertEqual(bindings_of("val x = let val r = ref [] in (r := [1]; r) end"), {"x": "int list ref"})

    def test_in_a_struct(self):
        self.rejects(Mismatch, 0, "structure S = struct val r = ref [] val s = r := [1] end")
        self.accepts("structure S = struct val r = ref [] val s = r := [()] end")
        self.rejects(Mismatch, 1, "structure S = struct val r = ref [] end val s = S.r := [1]")

    def test_principal_leaves_them(self):
        self.assertEqual(type_of("ref []"), "'a list ref")
        self.assertEqual(principal(parse_expression("(ref [], raise Div)"))[0], ("a", "b"))


class Reports(CheckTests):
    def test_schemes(self):
        bindings = dict(check(parse("fun k x y = x val p = fn (u, v) => (v, u) val n = 1"))[0])
        a, b = ("var", "a"), ("var", "b")
        self.assertEqual(bindings["k"], (("a", "b"), ("fun", a, ("fun", b, a))))
        self.assertEqual(bindings["p"], (("a", "b"), ("fun", ("tuple", (a, b)), ("tuple", (b, a)))))
        self.assertEqual(bindings["n"], ((), ("con", "int", ())))

    def test_names_of_type_constructors(self):
        bindings, data = check(parse("datatype t = A datatype 'a t = B datatype t = C of int and u = D val x = (C, D)"))
        names = [name for name, _, _ in data[2:]]
        self.assertEqual([name.partition(".")[0] for name in names], ["t", "t", "t", "u"])
        self.assertEqual(len(set(names)), 4)
        for name in names:
            self.assertTrue(name.partition(".")[2].isdigit())
        self.assertEqual(dict(bindings)["x"][1], ("tuple", (
            ("fun", ("con", "int", ()), ("con", names[2], ())), ("con", names[3], ()))))

    def test_letters_of_data_types(self):
        data = check(parse("datatype ('z, 'a) t = A of 'a * 'z"))[1]
        self.assertEqual(data[2][1:], (("z", "a"), (("A", ("tuple", (("var", "a"), ("var", "z")))),)))

    def test_many_variables(self):
        def function(count):
            rows = [[f"x{k}" for k in range(start, min(start + 6, count))] for start in range(0, count, 6)]
            return f"fn ({', '.join('(' + ', '.join(row) + ')' for row in rows)}) => 1"
        letters = principal(parse_expression(function(26)))[0]
        self.assertEqual("".join(letters), "abcdefghijklmnopqrstuvwxyz")
        self.has_none(function(27))
        self.accepts("val f = " + function(26))
        self.rejects(Mismatch, 1, "val x = 1 val f = " + function(27))
        self.accepts("structure S = struct val f = " + function(27) + " end", "val x = let val f = " + function(27) + " in 1 end")

    def test_300_nodes(self):
        six = "val six = (1, 1, 1, 1, 1, 1) val row = (six, six, six, six, six, six) val all = (row, row, row, row, row, row) "
        bindings = dict(check(parse(six))[0])
        self.assertEqual(nodes(bindings["all"][1]), 259)
        exactly = six + "val x = (all, (six, six, six, six, six, (1, 1)))"
        self.assertEqual(nodes(dict(check(parse(exactly))[0])["x"][1]), 299)
        exactly = six + "val x = (all, (six, six, six, six, six, (1, 1, 1)))"
        self.assertEqual(nodes(dict(check(parse(exactly))[0])["x"][1]), 300)
        self.rejects(Mismatch, 3, six + "val x = (all, (six, six, six, six, six, (1, 1, 1, 1)))",
                     six + "val (x, y) = ((all, (six, six, six, six, six, (1, 1, 1, 1))), 1)",
                     six + "fun f () = (all, (six, six, six, six, six, (1, 1, 1)))",
                     six + "val y = (all, all)")
        self.accepts(six + "val x = let val y = (all, (all, all)) in 1 end", six + "structure S = struct val y = (all, all) end",
                     six + "val _ = (all, all)")
        self.accepts(six + "fun f () = (all, (six, six, six, six, (1, 1, 1), (1, 1)))")

    def test_300_nodes_of_data(self):
        types = "type six = int * int * int * int * int * int type row = six * six * six * six * six * six " \
                "type all = row * row * row * row * row * row "
        exactly = types + "datatype t = A of all * (six * six * six * six * six * (int * int * int))"
        self.assertEqual(nodes(check(parse(exactly))[1][2][2][0][1]), 300)
        more = "datatype t = A of all * (six * six * six * six * six * (int * int * int * int))"
        self.rejects(Mismatch, 3, types + more, types + f"structure S = struct {more} end")
        self.accepts(types + f"functor F (X : sig end) = struct {more} end", types + f"signature G = sig {more} end",
                     types + "type more = all * all * all", types + "exception E of all * all")
        self.rejects(Mismatch, 4, types + f"functor F (X : sig end) = struct {more} end structure S = F (struct end)")

    def test_types_that_are_large_within(self):
        # Each name doubles the type before it; the types of 2 ** 40 nodes are not reported.
        text = "val x = let val x0 = 1 " + " ".join(f"val x{k + 1} = (x{k}, x{k})" for k in range(40)) + " in 1 end"
        for program in (text, text.replace("val x0 = 1", "fun x0 y = y"), text.replace("val x = let", "fun f x0 = let").replace(
                "val x0 = 1 ", "")):
            try:
                check(parse(program))
            except Mismatch as error:
                self.assertEqual(error.number, 0)
        aliases = "type 'a t0 = 'a * 'a " + " ".join(f"type 'a t{k + 1} = 'a t{k} t{k}" for k in range(30)) + " val x = 1"
        try:
            check(parse(aliases))
        except Mismatch:
            pass
        functions = "val x = let fun d0 x = (x, x) " + " ".join(f"val d{k + 1} = fn x => d{k} (d{k} x)" for k in range(28)) + " in 1 end"
        try:
            check(parse(functions))
        except Mismatch:
            pass

    def test_deep_types(self):
        text = "val r0 = 1 " + " ".join(f"val r{k + 1} = {'ref (' * 5}r{k}{')' * 5}" for k in range(58))
        bindings = dict(check(parse(text))[0])
        self.assertEqual(nodes(bindings["r58"][1]), 291)
        self.rejects(Mismatch, 3, "val f = fn x => " + "ref (" * 20 + "x" + ")" * 20 + " val g = fn x => f (f (f (f (f x)))) "
                     "val h = fn x => g x val k = fn x => g (g (g x))")


class Order(CheckTests):
    def test_first_declaration_with_an_error(self):
        self.rejects(Mismatch, 0, "val x = 1 + True val y = z", "val x = 1 + True val y = case 1 of 2 => 3")
        self.rejects(ScopeError, 1, "val x = 1 val y = z val w = 1 + True")
        self.rejects(Uncovered, 0, "val x = case 1 of 2 => 3 val y = z")
        self.rejects(Unused, 1, "val a = 1 val x = case 1 of _ => 3 | 2 => 1 val y = z")

    def test_within_a_declaration(self):
        self.rejects(ScopeError, 0, "val x = (1 + True, z)", "val x = (case 1 of 2 => 3, z)", "fun f x = 1 + True and g 1 = z",
                     "structure S = struct val x = 1 + True val y = z end",
                     "structure S : sig val a : int end = struct val y = z end")
        self.rejects(Mismatch, 0, "val x = (case 1 of 2 => 3, 1 + True)", "fun f 1 = 2 and g x = 1 + True",
                     "structure S = struct fun f 1 = 2 val x = 1 + True end",
                     "structure S : sig val a : int end = struct val y = 1 + True end")
        self.rejects(SignatureError, 0, "structure S : sig val a : int end = struct fun f 1 = 2 end")
        self.rejects(SignatureError, 0, "structure S = struct structure T : sig val a : int end = struct end val y = 1 + True end")
        self.rejects(Mismatch, 0, "structure S = struct val y = 1 + True structure T : sig val a : int end = struct end end")

    def test_principal(self):
        for text, error in (("z", ScopeError), ("(1 + True, z)", ScopeError), ("1 + True", Mismatch),
                            ("(case 1 of 2 => 3, 1 + True)", Mismatch), ("case 1 of 2 => 3", Uncovered),
                            ("fn _ => 1 | _ => 2", Unused)):
            with self.assertRaises(error) as caught:
                principal(parse_expression(text))
            self.assertEqual(caught.exception.number, 0)
            self.assertIs(type(caught.exception), error)


if __name__ == "__main__":
    import unittest
    unittest.main()
