"""The evaluator of syntax trees (points 4 to 7, 23, 31 and 40 to 45)."""

import unittest

from guanaco.define import run
from guanaco.parser import parse
from running import DONE, FULL, MORE, STUCK, end_of, parts, printed, ran, value_of

BIG = 2000000000


def integer(n):
    return ("int", n)


class ValueTrees(unittest.TestCase):
    def test_each_kind(self):
        cases = {
            "1": integer(1), "~5": integer(-5), '"a"': ("string", "a"), "()": ("tuple", ()),
            "(1, ())": ("tuple", (integer(1), ("tuple", ()))), "True": ("con", "True", None),
            "[1]": ("con", "Cons", ("tuple", (integer(1), ("con", "Nil", None)))),
            "Div": ("exn", "Div", None), "fn x => x": ("fn",), "plus": ("fn",), "Cons": ("fn",),
            "ref 1": ("ref", integer(1)), "ref (ref True)": ("ref", ("ref", ("con", "True", None))),
        }
        for text, tree in cases.items():
            self.assertEqual(value_of(f"val x = {text}"), tree, text)

    def test_exceptions(self):
        self.assertEqual(value_of("exception E of int val x = E 3"), ("exn", "E", integer(3)))
        self.assertEqual(value_of("exception E of int val x = E"), ("fn",))
        self.assertEqual(value_of("exception E structure S = struct exception F end val x = S.F"), ("exn", "F", None))

    def test_references_at_the_end(self):
        end = end_of("val r = ref 1 val s = r val x = !r val _ = r := 2")
        self.assertEqual(end, ("done", (("r", ("ref", integer(2))), ("s", ("ref", integer(2))), ("x", integer(1)))))

    def test_shared_parts(self):
        text = "val a = (1, 2) val b = (a, a) val c = (b, b)"
        tree = value_of(text)
        self.assertEqual(tree[1][0], tree[1][1])
        self.assertEqual(len(parts(tree)), 15)

    def test_a_reference_that_holds_itself(self):
        tree = value_of("datatype t = T of t ref | N val r = ref N val _ = r := T r val x = 0 val y = r")
        found = parts(tree)
        self.assertEqual([part[0] for part in found[:4]], ["ref", "con", "ref", "con"])
        self.assertEqual(len(found), 201)
        self.assertEqual([part[0] for part in found[198:]], ["ref", "con", "deep"])
        self.assertNotIn("deep", [part[0] for part in found[:200]])

    def test_200_parts(self):
        """A row of n references, each in a constructor, has 2 n parts around what it begins with."""
        text = "datatype t = L of int | R of t ref fun go 0 = L 5 | go n = R (ref (go (n - 1))) val x = "
        self.assertEqual([part[0] for part in parts(value_of(text + "go 99"))[198:]], ["con", "int"])
        found = parts(value_of(text + "(go 98, 1, 2, 3)"))
        self.assertEqual([part[0] for part in found[197:]], ["con", "int", "int", "deep", "deep"])
        found = parts(value_of(text + "(go 98, (1, 2), 3)"))
        self.assertEqual([part[0] for part in found[197:]], ["con", "int", "tuple", "deep", "deep", "deep"])

    def test_deep_parts_in_order(self):
        """What is behind the 200th part is deep, also within the parts ahead of it."""
        text = "fun go 0 = [] | go n = n :: go (n - 1) val x = (go 100, 1, (2, 3), fn x => x)"
        tree = value_of(text)
        self.assertEqual(tree[1][1:], (("deep",),) * 3)
        found = parts(tree)
        self.assertEqual([part[0] for part in found].index("deep"), 200)

    def test_each_tree_has_its_own_parts(self):
        text = "fun go 0 = [] | go n = n :: go (n - 1) val x = go 60 val y = go 60"
        end = end_of(text)
        self.assertEqual(end[1][1][1], end[1][2][1])
        self.assertEqual(len(parts(end[1][2][1])), 181)


class Bindings(unittest.TestCase):
    def test_order(self):
        text = "val x = 1 val y = 2 val x = 3 fun f a = a and y b = b val (p, _, [q]) = (4, 5, [6])"
        names = [name for name, _ in end_of(text)[1]]
        self.assertEqual(names, ["x", "f", "y", "p", "q"])
        self.assertEqual(end_of(text)[1][0][1], integer(3))

    def test_only_outermost_val_and_fun(self):
        text = "structure S = struct val a = 1 end open S val _ = let val b = 2 in b end val b = a"
        self.assertEqual(end_of(text), ("done", (("b", integer(1)),)))

    def test_opened_names_do_not_count(self):
        text = "val a = 1 structure S = struct val a = 2 end open S val b = a"
        self.assertEqual(end_of(text), ("done", (("a", integer(1)), ("b", integer(2)))))

    def test_nothing(self):
        self.assertEqual(run((), 0), ((), DONE))
        self.assertEqual(end_of("val _ = 1"), DONE)

    def test_a_name_twice_in_a_fun(self):
        """No checked program has it: the last one counts, at its last place."""
        rules = ((("any",), ("int", 1)),)
        program = (("fun", (("f", rules), ("g", rules), ("f", rules))),)
        self.assertEqual([name for name, _ in run(program, 5)[1][1]], ["g", "f"])


class Primitives(unittest.TestCase):
    def check(self, cases):
        for text, wanted in cases.items():
            self.assertEqual(value_of(f"val x = {text}"), wanted, text)

    def test_integers(self):
        self.check({
            "1 + 2": integer(3), "1 - 2": integer(-1), "3 * 4": integer(12), "~ (3)": integer(-3),
            "7 div 2": integer(3), "~7 div 2": integer(-4), "7 div ~2": integer(-4), "~7 div ~2": integer(3),
            "7 mod 2": integer(1), "~7 mod 2": integer(1), "7 mod ~2": integer(-1), "~7 mod ~2": integer(-1),
            "0 div 5": integer(0), "negate 0": integer(0),
        })

    def test_overflow(self):
        self.check({
            f"{BIG} + 0": integer(BIG), f"{BIG} + 1": ("raised", "Overflow", None),
            f"~{BIG} - 0": integer(-BIG), f"~{BIG} - 1": ("raised", "Overflow", None),
            f"~{BIG} + ~1": ("raised", "Overflow", None), f"{BIG} - ~1": ("raised", "Overflow", None),
            "50000 * 40000": integer(BIG), "50000 * ~40000": integer(-BIG),
            "50001 * 40000": ("raised", "Overflow", None), "50001 * ~40000": ("raised", "Overflow", None),
            f"~{BIG} div ~1": integer(BIG), f"negate ~{BIG}": integer(BIG),
        })

    def test_division_by_zero(self):
        self.check({"1 div 0": ("raised", "Div", None), "1 mod 0": ("raised", "Div", None),
                    "0 div 0": ("raised", "Div", None)})

    def test_comparisons(self):
        for a, b in ((1, 2), (2, 2), (3, 2)):
            for sign, holds in (("=", a == b), ("<>", a != b), ("<", a < b), ("<=", a <= b), (">", a > b),
                                (">=", a >= b)):
                self.check({f"{a} {sign} {b}": ("con", str(holds), None)})

    def test_strings(self):
        long = "x" * 100
        self.check({
            '"a" ^ "bc"': ("string", "abc"), f'size ("{long}" ^ "{long}")': integer(200),
            f'"{long}" ^ "{long}y"': ("raised", "Size", None), 'size ""': integer(0), 'size "a\\n"': integer(2),
            'code ("ab", 0)': integer(97), 'code ("ab", 1)': integer(98), 'code ("ab", 2)': ("raised", "Subscript", None),
            'code ("ab", ~1)': ("raised", "Subscript", None), 'code ("", 0)': ("raised", "Subscript", None),
            'same ("a", "a")': ("con", "True", None), 'same ("a", "b")': ("con", "False", None),
            "digits 120": ("string", "120"), "digits ~7": ("string", "~7"), "digits 0": ("string", "0"),
        })

    def test_constants(self):
        text = "x" * 200
        self.check({f'"{text}"': ("string", text), str(BIG): integer(BIG), f"~{BIG}": integer(-BIG)})

    def test_print_and_references(self):
        self.assertEqual(ran('val x = print "a" val y = (print "b"; 2)'),
                         (("a", "b"), ("done", (("x", ("tuple", ())), ("y", integer(2))))))
        self.check({"!(ref 5)": integer(5), "let val r = ref 1 in r := 2; !r end": integer(2),
                    "(ref 1 := 2)": ("tuple", ())})

    def test_as_values_and_declared_again(self):
        self.check({
            "let val f = plus in f (1, 2) end": integer(3), "(fn f => f (7, 2)) quotient": integer(3),
            "let val p = (4, 5) in times p end": integer(20), "let fun plus (a, b) = 9 in 1 + 2 end": integer(9),
            "let val minus = plus in 1 - 2 end": integer(3), "let val ref = 3 in ref end": integer(3),
        })
        text = 'fun concat _ = "c" fun assign _ = 1 val x = ("a" ^ "b", ref 1 := 2)'
        self.assertEqual(value_of(text), ("tuple", (("string", "c"), integer(1))))

    def test_exceptions_of_the_start_stay(self):
        self.assertEqual(value_of("exception Div val x = 1 div 0 handle Div => 2"), ("raised", "Div", None))


class Fuel(unittest.TestCase):
    def takes(self, text, steps):
        """Tests that a program needs exactly so many steps."""
        self.assertNotEqual(end_of(text, steps), MORE, text)
        if steps:
            self.assertEqual(end_of(text, steps - 1), MORE, text)

    def test_steps(self):
        for text, steps in (
                ("val x = 1", 0), ("val f = fn x => x", 0), ("val x = (fn x => x) 1", 1), ("val x = 1 + 2", 1),
                ("val x = [1, 2]", 0), ("val x = Cons (1, Nil)", 0), ("exception E of int val x = E 1", 0),
                ("val x = (fn c => c (1, [])) Cons", 1), ("fun f x = x val y = f (f 1)", 2),
                ("fun f 0 = 0 | f n = f (n - 1) val y = f 3", 7), ("val r = ref 0 val _ = r := !r", 3),
                ("functor F (X : sig end) = struct end structure S = F (struct end)", 0),
                ("val x = case 1 of 1 => 2", 0), ("val x = (raise Div) handle Div => 1", 0),
                ("val x = 1 div 0 handle Div => 1", 1), ("fun f x y = x val z = f 1 2", 2)):
            self.takes(text, steps)

    def test_more_comes_first(self):
        self.assertEqual(end_of("val x = plus 1", 0), MORE)
        self.assertEqual(end_of("val x = plus 1", 1), STUCK)
        self.assertEqual(end_of("val x = (fn 1 => 2) 3", 0), MORE)
        self.assertEqual(end_of("val x = (fn 1 => 2) 3", 1), STUCK)
        self.assertEqual(end_of("val x = 1 div 0", 0), MORE)
        self.assertEqual(end_of("val x = 1 2", 0), STUCK)

    def test_what_was_printed_until_then(self):
        text = 'val _ = print "a" val _ = print "b" val _ = print "c"'
        for fuel in range(5):
            outputs, end = ran(text, fuel)
            self.assertEqual(outputs, ("a", "b", "c")[:fuel])
            self.assertEqual(end, MORE if fuel < 3 else DONE)

    def test_references(self):
        text = "fun f 0 = () | f n = (ref n; f (n - 1)) val x = f {}"
        self.assertEqual(end_of(text.format(1000), 20000)[0], "done")
        self.assertEqual(end_of(text.format(1001), 20000), FULL)

    def test_strings(self):
        text = 'fun f 0 = () | f n = (print "p"; f (n - 1)) val x = f {}'
        self.assertEqual(len(ran(text.format(200), 20000)[0]), 200)
        self.assertEqual(end_of(text.format(200), 20000)[0], "done")
        self.assertEqual(ran(text.format(201), 20000), (("p",) * 200, FULL))
        self.assertEqual(end_of("fun f 0 = print 1 | f n = (print \"p\"; f (n - 1)) val x = f 200", 20000), STUCK)

    def test_fuel_comes_before_full(self):
        text = 'fun f 0 = () | f n = (print "p"; f (n - 1)) val x = f 201'
        steps = 3 * 200 + 1
        self.assertEqual(end_of(text, steps), MORE)
        self.assertEqual(end_of(text, steps + 1), FULL)

    def test_deep_calls(self):
        self.assertEqual(end_of("fun f x = f x val y = f 1", 20000), MORE)
        self.assertEqual(end_of("fun f x = 1 + f x val y = f 1", 20000), MORE)
        self.assertEqual(end_of("fun f x = (f x; x) val y = f 1", 20000), MORE)
        self.assertEqual(end_of("fun f x = (f x handle Div => 1) val y = f 1", 20000), MORE)
        self.assertEqual(end_of("fun f x = let val y = f x in y end val z = f 1", 20000), MORE)
        self.assertEqual(value_of("fun f 0 = 0 | f n = 1 + f (n - 1) val y = f 6600", 20000), integer(6600))
        text = "fun f 0 = raise Div | f n = 1 + f (n - 1) val y = f 9000 handle Div => 5"
        self.assertEqual(value_of(text, 20000), integer(5))


class Order(unittest.TestCase):
    def test_parts(self):
        cases = {
            '((print "a"; fn x => x) (print "b"; 1))': "ab",
            '((print "a"; 1), (print "b"; 2), (print "c"; 3))': "abc",
            '((print "a"; 1) + (print "b"; 2))': "ab",
            '(case (print "a"; 1) of 1 => print "b" | _ => print "c")': "ab",
            '(if (print "a"; False) then print "b" else print "c")': "ac",
            '(let val x = print "a" val y = print "b" in print "c" end)': "abc",
            '((print "a"; print "b"); print "c")': "abc",
            '((raise (print "a"; Div)) handle Div => print "b")': "ab",
            '((print "a"; fn _ => print "c") (print "b"))': "abc",
            '[print "a", print "b"]': "ab",
            '((print "a"; 1) 2 handle _ => ())': "a",
            '(fn x => print "z")': "",
        }
        for text, wanted in cases.items():
            self.assertEqual(printed(f"val x = {text}"), wanted, text)

    def test_what_is_applied_comes_before_the_argument(self):
        self.assertEqual(ran('val x = 1 (print "a")'), (("a",), STUCK))
        self.assertEqual(end_of("val x = y (raise Div)"), STUCK)
        self.assertEqual(end_of("val x = 1 (raise Div)"), ("raised", "Div", None))

    def test_raise_ends_all_up_to_the_handle(self):
        text = 'val r = ref 0 val x = (print "a"; r := 1; raise Div; print "b"; r := 2) handle Div => print "c"'
        self.assertEqual(printed(text), "ac")
        self.assertEqual(value_of(text + " val y = !r"), integer(1))

    def test_closures_keep_their_environment(self):
        self.assertEqual(value_of("val x = 1 fun f _ = x val x = 2 val y = f ()"), integer(1))
        self.assertEqual(value_of("fun f 0 = 1 | f n = g (n - 1) and g 0 = 2 | g n = f (n - 1) val y = f 3"), integer(2))
        text = "val x = 1 functor F (X : sig end) = struct val y = x end val x = 2 structure S = F (struct end) val z = S.y"
        self.assertEqual(value_of(text), integer(1))

    def test_shadowing_in_patterns_and_lets(self):
        self.assertEqual(value_of("val x = 1 val y = case 2 of x => let val x = x + 1 in x end"), integer(3))
        self.assertEqual(value_of("val y = (fn x => (fn x => x) 5 + x) 1"), integer(6))


class Matches(unittest.TestCase):
    def test_first_rule_that_fits(self):
        text = 'fun f (0, _) = 1 | f (_, "a") = 2 | f (n, s) = n + size s'
        for argument, wanted in (('(0, "a")', 1), ('(5, "a")', 2), ('(5, "bc")', 7)):
            self.assertEqual(value_of(f"{text} val x = f {argument}"), integer(wanted))

    def test_kinds_of_patterns(self):
        text = "datatype t = A | B of int fun f [A, B n] = n | f (_ :: A :: _) = 2 | f [] = 3 | f _ = 4"
        for argument, wanted in (("[A, B 7]", 7), ("[A, A, A]", 2), ("[]", 3), ("[A]", 4), ("[B 1]", 4)):
            self.assertEqual(value_of(f"{text} val x = f {argument}"), integer(wanted))

    def test_constructors_by_name_alone(self):
        text = "datatype t = A of int val v = A 1 datatype u = B | A of int val x = case v of A n => n | B => 0"
        self.assertEqual(value_of(text), integer(1))

    def test_patterns_of_other_kinds_do_not_fit(self):
        for pattern in ("(_, _)", "\"a\"", "[]", "True", "()", "Div"):
            self.assertEqual(value_of(f"val x = case 5 of {pattern} => 1 | _ => 2"), integer(2), pattern)
            self.assertEqual(end_of(f"val x = case 5 of {pattern} => 1"), STUCK, pattern)
        self.assertEqual(value_of("val x = case (1, 2) of (_, _, _) => 1 | (_, _) => 2"), integer(2))
        self.assertEqual(value_of('val x = case "1" of 1 => 1 | _ => 2'), integer(2))


class Exceptions(unittest.TestCase):
    def test_handlers(self):
        for text, wanted in (
                ("(raise Div) handle Div => 1", 1), ("((raise Div) handle Size => 1) handle Div => 2", 2),
                ("1 div 0 handle Overflow => 1 | Div => 2", 2), ("((raise Div) handle Div => raise Size) handle Size => 3", 3),
                ("5 handle Div => 1", 5), ("(raise (raise Size)) handle Size => 4 | _ => 5", 4),
                ("let exception E of int in (raise E 6) handle E n => n end", 6)):
            self.assertEqual(value_of(f"val x = {text}"), integer(wanted), text)

    def test_no_handler(self):
        self.assertEqual(end_of("exception E of int * string val x = raise E (1, \"a\")"),
                         ("raised", "E", ("tuple", (integer(1), ("string", "a")))))
        self.assertEqual(end_of("exception E val x = (raise E) handle Div => 1"), ("raised", "E", None))
        self.assertEqual(end_of("structure S = struct exception E' of unit end val x = raise S.E' ()"),
                         ("raised", "E'", ("tuple", ())))
        self.assertEqual(ran('val r = ref 1 exception E of int ref val _ = (print "a"; r := 2; raise E r)'),
                         (("a",), ("raised", "E", ("ref", integer(2)))))

    def test_a_new_exception_at_each_evaluation(self):
        text = "fun make _ = let exception E in (E, fn x => (raise x) handle E => 1 | _ => 2) end " \
               "val (a, f) = make () val (b, g) = make () val x = (f a, f b, g a, g b)"
        self.assertEqual(value_of(text), ("tuple", (integer(1), integer(2), integer(2), integer(1))))

    def test_a_later_exception_hides_an_earlier_one(self):
        text = "exception E val a = E exception E val x = (raise a) handle E => 1 | _ => 2"
        self.assertEqual(value_of(text), integer(2))
        text = "exception E of int fun f () = raise E 1 exception E of int val x = f () handle E n => n"
        self.assertEqual(value_of(text), ("raised", "E", integer(1)))

    def test_handlers_end_with_what_they_protect(self):
        text = "fun f g = g () handle Div => 1 val h = (fn () => fn () => raise Div) val x = f h () handle Div => 2"
        self.assertEqual(value_of(text), integer(2))
        text = 'fun f 0 = raise Div | f n = (f (n - 1) handle Div => (print (digits n); raise Div)) val x = f 3'
        self.assertEqual(ran(text), (("1", "2", "3"), ("raised", "Div", None)))


class Structures(unittest.TestCase):
    def test_struct_open_and_paths(self):
        text = "structure S = struct val x = 1 structure T = struct val y = x + 1 datatype t = A of int exception E end end "
        self.assertEqual(value_of(text + "val z = S.T.y"), integer(2))
        self.assertEqual(value_of(text + "open S open T val z = case A 3 of A n => n + y + x"), integer(6))
        self.assertEqual(value_of(text + "structure U = S.T val z = (raise S.T.E) handle U.E => 4"), integer(4))
        self.assertEqual(value_of(text + "val z = S.T.A 5"), ("con", "A", integer(5)))

    def test_seals(self):
        for sign in (":", ":>"):
            text = "structure S " + sign + " sig type t val a : int exception E datatype d = D structure T : sig val c : int end end" \
                " = struct type t = int val a = 1 val b = 2 exception E exception F datatype d = D" \
                " structure T = struct val c = 3 val d = 4 end end "
            self.assertEqual(value_of(text + "val x = (S.a, S.T.c, S.D)"),
                             ("tuple", (integer(1), integer(3), ("con", "D", None))))
            for path in ("S.b", "S.F", "S.T.d"):
                self.assertEqual(end_of(text + f"val x = {path}"), STUCK)

    def test_a_seal_makes_no_new_exceptions(self):
        text = "structure S = struct exception E end structure T : sig exception E end = S " \
               "structure U :> sig exception E end = T val x = (raise S.E) handle U.E => 1 val y = (raise U.E) handle T.E => 2"
        self.assertEqual(value_of(text), integer(2))

    def test_functors(self):
        text = "functor F (X : sig val a : int end) = struct val b = X.a * 10 exception E end " \
               "structure S = F (struct val a = 1 val b = 2 end) structure T = F (struct val a = 2 end) "
        self.assertEqual(value_of(text + "val x = (S.b, T.b)"), ("tuple", (integer(10), integer(20))))
        self.assertEqual(value_of(text + "val x = (raise S.E) handle T.E => 1 | _ => 2"), integer(2))
        text = "functor F (X : sig val a : int end) = struct val b = X.c end structure S = F (struct val a = 1 val c = 2 end)"
        self.assertEqual(end_of(text), STUCK)

    def test_functors_within_functors(self):
        text = "functor F (X : sig val a : int end) = struct val a = X.a + 1 end " \
               "functor G (X : sig val a : int end) = struct structure Y = F (F (X)) val a = Y.a + X.a end " \
               "structure S = G (struct val a = 1 end) val x = S.a"
        self.assertEqual(value_of(text), integer(4))

    def test_order(self):
        text = 'functor F (X : sig val a : int end) = struct val _ = print "b" end ' \
               'structure S = F (struct val a = (print "a"; 1) end) structure T = F (struct val a = 2 end)'
        self.assertEqual(printed(text), "abb")
        text = 'functor F (X : G) = struct end structure S = F (struct val _ = print "a" end)'
        self.assertEqual(ran(text), (("a",), STUCK))
        self.assertEqual(ran('structure S : G = struct val _ = print "a" end'), (("a",), STUCK))

    def test_signatures(self):
        text = "signature G = sig val a : int end signature H = sig structure A : G end " \
               "structure S : H = struct structure A = struct val a = 1 val b = 2 end end "
        self.assertEqual(value_of(text + "val x = S.A.a"), integer(1))
        self.assertEqual(end_of(text + "val x = S.A.b"), STUCK)
        text = "signature G = sig val a : int end structure S : G where type t = int = struct val a = 1 val b = 2 end "
        self.assertEqual(value_of(text + "val x = S.a"), integer(1))
        self.assertEqual(end_of(text + "val x = S.b"), STUCK)

    def test_references_are_shared(self):
        text = "structure S = struct val r = ref 1 end structure T : sig val r : int ref end = S " \
               "val _ = T.r := 2 val x = !S.r"
        self.assertEqual(value_of(text), integer(2))


class Stuck(unittest.TestCase):
    REASONS = (
        "y", "Y", "S.y", "S.Y", "1 2", "Nil 3", "\"a\" 1", "() ()", "(1, 2) 3", "(ref 1) 1", "Div 1",
        "case 1 of 2 => 3", "(fn 1 => 2) 2", "let val 1 = 2 in 3 end", "let val [x] = [] in 3 end",
        "let fun f 1 = 2 in f 3 end", "if 1 then 2 else 3", "if Div then 2 else 3", "if [] then 2 else 3",
        "raise 1", "raise Nil", "raise (fn x => x)", "plus 1", "plus (1, 2, 3)", "plus (1, \"a\")", "1 + True",
        "\"a\" = \"a\"", "same (1, 1)", "negate \"a\"", "size 1", "code (\"a\", \"b\")", "code (1, 1)", "digits True",
        "print 1", "\"a\" ^ 1", "!1", "!()", "1 := 2", "assign (ref 1)", "2000000001", "~2000000001",
        "\"" + "x" * 201 + "\"", "case 1 of Y => 1 | _ => 2", "case 1 of S.Y => 1 | _ => 2",
        "let open S in 1 end", "(1 handle Div => 2; y)", "(raise Div) handle Y => 2", "let exception E of int in raise E end",
    )

    def test_reasons(self):
        for text in self.REASONS:
            self.assertEqual(end_of(f"val x = {text}"), STUCK, text)

    def test_within_a_larger_program(self):
        for text in self.REASONS:
            program = f'val _ = print "a" fun f x = (print x; (fn _ => ({text})) ()) handle Div => f "b" ' \
                      f'val y = [f "c"] val _ = print "d"'
            outputs, end = ran(program)
            self.assertEqual((outputs[:2], end), (("a", "c"), STUCK), text)
            self.assertNotIn("d", outputs)

    def test_declarations(self):
        for text in ("open S", "structure T = S", "structure T = F (struct end)", "signature H = G",
                     "structure T : G = struct end", "structure T : sig val x : int end = struct end",
                     "structure T : sig exception E end = struct end",
                     "structure T : sig datatype t = A end = struct end",
                     "structure T : sig structure U : sig end end = struct end",
                     "structure T : sig exception A end = struct datatype t = A end",
                     "structure T : sig datatype t = E end = struct exception E end",
                     "signature G = sig structure A : H end"):
            self.assertEqual(ran(f'val _ = print "a" {text} val _ = print "b"'), (("a",), STUCK), text)

    def test_what_is_not_evaluated(self):
        for text in ("fn _ => y", "fn _ => 2000000001", "if True then 1 else y", "case 1 of _ => 2 | Y => 3",
                     "case 1 of 1 => 2 | 2000000001 => 3", "1 : t", "1 handle Y => 2"):
            self.assertEqual(end_of(f"val x = {text}")[0], "done", text)
        self.assertEqual(end_of("functor F (X : G) = struct open Y end"), DONE)

    def test_true_and_false_of_other_types(self):
        self.assertEqual(value_of("datatype t = True | Maybe val x = if True then 1 else 2"), integer(1))
        self.assertEqual(end_of("datatype t = True of int val x = if True 1 then 1 else 2"), STUCK)
        self.assertEqual(end_of("datatype t = True of int val x = if True then 1 else 2"), STUCK)

    def test_programs_that_the_checker_refuses(self):
        self.assertEqual(value_of("val x = if True then 1 else \"a\""), integer(1))
        self.assertEqual(value_of("fun f 0 = 1 val x = f 0"), integer(1))
        self.assertEqual(value_of("val x = [1, True]")[0], "con")
        self.assertEqual(value_of("val r = ref [] val _ = r := [1] val x = True :: !r")[0], "con")
        self.assertEqual(value_of("val x = (fn f => f f) (fn f => 3)"), integer(3))


if __name__ == "__main__":
    unittest.main()
