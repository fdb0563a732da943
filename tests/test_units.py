"""Units, their objects, and objects as texts (points 127 to 129 and 132)."""

import copy
import random
import unittest

from cores import INT, START
from guanaco import errors
from guanaco.assembly import read_code, write_code
from guanaco.checker import check_with
from guanaco.closures import convert
from guanaco.elaborate import elaborate_with
from guanaco.emitter import emit
from guanaco.inspect import is_sound
from guanaco.monos import nodes, ty_scheme
from guanaco.normal import is_closed, normalize, normalize_unit
from guanaco.optimizer import optimize, reducible
from guanaco.parser import parse, parse_ty
from guanaco.units import compile_unit, read_object, write_object
from unit_runs import random_units

WRAP = "function 0 slots 3\ntag r2 0\nclose r2 #1 r2\nreturn r2\n"


def scheme(text):
    return ty_scheme(parse_ty(text))


def interface(**rows):
    return tuple((name, scheme(text), position) for name, (text, position) in rows.items())


def unit(text, *imports, name="U", interfaces=None):
    return compile_unit((name, imports, text), interfaces or {})


class Interfaces(unittest.TestCase):
    def has(self, text, *rows, imports=(), interfaces=None):
        found = unit(text, *imports, interfaces=interfaces)[3]
        self.assertEqual([(name, position) for name, _, position in found], list(rows))
        return found

    def test_values(self):
        found = self.has("val x = 1 fun f y = (y, x) val p = ref True val e = Div val l = [\"a\"]", ("x", 0), ("f", 1), ("p", 2), ("e", 3), ("l", 4))
        self.assertEqual(found, interface(x=("int", 0), f=("'a -> 'a * int", 1), p=("bool ref", 2), e=("exn", 3), l=("string list", 4)))
        self.assertEqual(unit("")[3], ())
        self.has("exception E structure S = struct val x = 1 end datatype t = A")

    def test_names_that_are_bound_twice(self):
        self.has("val x = 1 val y = 2 val x = \"a\" fun f z = z", ("y", 0), ("x", 1), ("f", 2))
        self.has("val (x, y) = (1, 2) val (y, z) = (3, ()) val w = 1", ("x", 0), ("y", 1), ("z", 2), ("w", 3))

    def test_positions_count_all_values(self):
        self.has("datatype t = T val a = T val b = 1 val c = [a] val d = fn T => 2 val e = 3", ("b", 1), ("e", 4))

    def test_types_of_30_nodes(self):
        six = "(1, 2, 3, 4, 5, 6)"
        for text, count, kept in ((f"({six}, {six}, {six}, {six})", 29, True), (f"({six}, {six}, {six}, {six}, ())", 30, True), (f"({six}, {six}, {six}, {six}, (), ())", 31, False),
                                  (f"[({six}, {six}, {six}, {six})]", 30, True), (f"[[({six}, {six}, {six}, {six})]]", 31, False), (f"fn () => ({six}, {six}, {six}, (1, 2, 3, 4, 5))", 30, True)):
            found = unit(f"val a = 0 val x = {text} val y = 1")
            self.assertEqual(nodes(found[4][0][1][1][1]), count, text)
            self.assertEqual([(name, position) for name, _, position in found[3]], [("a", 0)] + [("x", 1)] * kept + [("y", 2)])

    def test_type_constructors(self):
        self.has("datatype 'a t = A of 'a | N val a = N val b = fn N => 1 | A n => n + 0 val c = A 1 val d = case c of A n => n | N => 0", ("d", 3))
        self.has("structure S :> sig type t val x : t val f : t -> int end = struct type t = int val x = 1 fun f x = x end val a = S.x val b = S.f val c = S.f a", ("c", 2))
        self.has("structure S : sig type t val x : t end = struct type t = int val x = 1 end val a = S.x", ("a", 0))
        self.has("type t = int list val a = ([] : t) datatype list = L val b = L val c = [1]", ("a", 0), ("c", 2))
        self.has("datatype int = I val a = I val b = 1", ("b", 1))

    def test_imported_values(self):
        table = {"A": interface(x=("int", 3), f=("'a -> 'a", 0)), "B": ()}
        found = self.has("val y = A.x val g = A.f open A val z = f x", ("y", 0), ("g", 1), ("z", 2), imports=("A", "B"), interfaces=table)
        self.assertEqual(found, interface(y=("int", 0), g=("'a -> 'a", 1), z=("int", 2)))


class Objects(unittest.TestCase):
    def test_without_imports(self):
        found = unit("val x = 1 fun f y = y + x", name="Main")
        self.assertEqual(found[:4], ("Main", (), (), interface(x=("int", 0), f=("int -> int", 1))))
        ty = ("fun", INT, INT)
        self.assertEqual(found[4], ((("x", ((), INT), found[4][0][0][2], (), INT), ("f", ((), ty), found[4][0][1][2], (), ty)), START, ()))
        self.assertEqual(write_code(found[5]), WRAP + "function 1 slots 4\ntag r2 0\nclose r2 #2 r2\nint r3 1\ntuple r3 (r3,r2)\nreturn r3\n"
                         "function 2 slots 3\nint r2 1\nprim r2 plus (r1,r2)\nreturn r2\n")

    def test_an_empty_unit(self):
        found = unit("")
        self.assertEqual(found[:5], ("U", (), (), (), ((), START, ())))
        self.assertEqual(write_code(found[5]), WRAP + "function 1 slots 3\ntag r2 0\nreturn r2\n")

    def test_imports(self):
        """Each import has a component of the parameter, by its place; each value one of that, by its position."""
        table = {"A": interface(x=("int", 2), f=("int -> int", 0), s=("string", 5)), "B": (), "C": interface(y=("int", 1))}
        found = unit("val z = A.f A.x + C.y", "B", "C", "A", interfaces=table)
        self.assertEqual(found[1:3], (("B", "C", "A"), ((), table["C"], table["A"])))
        self.assertEqual(write_code(found[5]), WRAP + "function 1 slots 8\npart r2 1 r1\npart r3 1 r2\npart r4 2 r1\npart r5 2 r4\npart r6 0 r4\n"
                         "call r7 r6 r5\nprim r8 plus (r7,r3)\ntuple r9 (r8)\nreturn r9\n".replace("slots 8", "slots 10"))

    def test_imports_that_are_not_used(self):
        table = {"A": interface(x=("int", 0)), "B": ()}
        self.assertEqual(unit("val z = 1", "A", "B", interfaces=table)[5], unit("val z = 1")[5])

    def test_the_block(self):
        """Steps for all values of all imports stand ahead of those of the core program, before optimization."""
        table = {"A": interface(x=("int", 2), f=("int -> int", 0)), "B": (), "C": interface(y=("int", 1))}
        text = "val z = C.y val w = A.f 1"
        structures = tuple((name, tuple(row[:2] for row in table[name])) for name in table)
        core = elaborate_with(parse(text), structures)
        imports = [(0, [("A.x", 2), ("A.f", 0)]), (2, [("C.y", 1)])]
        block, info = normalize_unit(core, imports)
        self.assertTrue(is_closed(block))
        self.assertEqual(block, ((("fix", ((0, 1, ((
            ("bind", 2, ("part", 0, ("name", 1))), ("bind", 3, ("part", 2, ("name", 2))), ("bind", 4, ("part", 0, ("name", 2))),
            ("bind", 5, ("part", 2, ("name", 1))), ("bind", 6, ("part", 1, ("name", 5))), ("bind", 7, ("apply", ("name", 4), ("int", 1))),
            ("bind", 8, ("tuple", (("name", 6), ("name", 7))))), ("give", ("name", 8)))),)),), ("give", ("name", 0))))
        self.assertEqual(info, (core[2], core[0], ()))
        best = optimize((block, info))
        self.assertFalse(reducible(best[0]))
        self.assertEqual(unit(text, "A", "B", "C", interfaces=table)[4:], (info, emit(convert(best))))
        plain = elaborate_with(parse("val x = 1 fun f y = y + x val z = f 2"), ())
        wrapped, info = normalize_unit(plain, [])
        self.assertEqual(info, normalize(plain)[1])
        self.assertEqual(len(wrapped[0]), 1)

    def test_exceptions_and_data(self):
        found = unit("datatype t = T exception E exception F of t * int val e = F (T, 1) structure S = struct exception E of int val x = E end val g = S.x")
        shown, data, exceptions = found[4]
        name = data[2][0]
        self.assertEqual(data, START + ((name, (), (("T", None),)),))
        self.assertEqual(exceptions, (("E", None), ("F", ("tuple", (("con", name, ()), INT))), ("E", INT)))
        self.assertEqual([row[0] for row in shown], ["e", "g"])

    def test_errors(self):
        table = {"A": interface(x=("int", 0)), "B": ()}
        for text, error, field in (("val y = A.y", errors.ScopeError, 0), ("val z = 1 val y = A.x ^ \"\"", errors.Mismatch, 1), ("val y = B.x", errors.ScopeError, 0),
                                   ("val y = C.x", errors.ScopeError, 0), ("val y = x", errors.ScopeError, 0), ("val y = A.T", errors.ScopeError, 0),
                                   ("val y = (1 : A.x)", errors.ScopeError, 0), ("val y = 1 handle A.E => 2", errors.ScopeError, 0),
                                   ("val y = case 1 of 1 => 2", errors.Uncovered, 0), ("val y = fn _ => 1 | _ => 2", errors.Unused, 0),
                                   ("structure S : sig val y : int end = A", errors.SignatureError, 0), ("val y = ", errors.ParseError, 8), ("val ?", errors.TokenError, 4)):
            with self.assertRaises(error, msg=text) as caught:
                unit(text, "A", "B", interfaces=table)
            self.assertIs(type(caught.exception), error)
            self.assertEqual(list(vars(caught.exception).values())[0], field)
        with self.assertRaises(errors.LimitError):
            unit(" " * 4001)
        with self.assertRaises(errors.ScopeError):
            unit("val y = A.x", "B", interfaces=table)

    def test_a_structure_of_the_program_hides_an_import(self):
        table = {"A": interface(x=("int", 0))}
        found = unit("val y = A.x structure A = struct val x = \"a\" end val z = A.x", "A", interfaces=table)
        self.assertEqual(found[3], interface(y=("int", 0), z=("string", 1)))

    def test_arguments_stay_and_answers_are_equal(self):
        table = {"A": interface(x=("int", 0), f=("'a -> 'a", 1)), "B": (), "Other": interface(q=("int", 0))}
        before = copy.deepcopy(table)
        one = ("U", ("B", "A"), "datatype t = T exception E of t val y = A.f (fn T => A.x) val z = E T functor F (X : sig end) = struct datatype d = D end")
        first = compile_unit(one, table)
        self.assertEqual(table, before)
        compile_unit(("V", (), "val x = 1 datatype q = Q"), table)
        self.assertEqual(compile_unit(one, table), first)
        self.assertEqual(compile_unit(one, dict(reversed(list(table.items())))), first)

    def test_random_units(self):
        for seed in range(60):
            for units, interfaces in random_units(random.Random(seed), 4):
                name, imports, text = units[-1]
                found = compile_unit(units[-1], interfaces)
                interfaces[name] = found[3]
                self.assertEqual(found[:3], (name, imports, tuple(interfaces[other] for other in imports)))
                structures = tuple((other, tuple(row[:2] for row in interfaces[other])) for other in imports)
                bindings = check_with(parse(text), structures)[0]
                self.assertEqual(tuple(row[:2] for row in found[4][0]), bindings)
                self.assertTrue(is_sound(found[5]))
                self.assertEqual(read_code(write_code(found[5])), found[5])
                self.assertEqual(read_object(write_object(found)), found)


def summed(line):
    total = 0
    for at in range(len(line)):
        total += (at + 1) * ord(line[at])
    return f"{line}\nsum {total % 1000003}\n"


SOUND = "((2 ((\"return\" 1))))"


class Texts(unittest.TestCase):
    def refuses(self, reason, *texts):
        for text in texts:
            with self.assertRaises(errors.LinkError, msg=text) as caught:
                read_object(text)
            self.assertIs(type(caught.exception), errors.LinkError)
            self.assertEqual(caught.exception.reason, reason, text)

    def reads(self, line, wanted):
        self.assertEqual(read_object(summed(line)), wanted)
        self.assertEqual(write_object(wanted), summed(line))

    def test_small_objects(self):
        code = ((2, (("return", 1),)),)
        self.reads(f"(\"A\" () () () () {SOUND})", ("A", (), (), (), (), code))
        self.reads(f"(\"A\\n\\\\\\\"\" (1 -5 0 T F - \"T\") ((())) (999999999999999999 -999999999999999999) (()) {SOUND})",
                   ("A\n\\\"", (1, -5, 0, True, False, None, "T"), (((),),), (999999999999999999, -999999999999999999), ((),), code))
        self.reads("(\"\" () () () () ((3 ((\"int\" 2 -999999999999999999) (\"string\" 2 \"( -\") (\"pack\" 2 2 -) (\"switch\" 2 () -)))))",
                   ("", (), (), (), (), ((3, (("int", 2, -999999999999999999), ("string", 2, "( -"), ("pack", 2, 2, None), ("switch", 2, (), None))),)))

    def test_the_sum(self):
        line = f"(\"A\" () () () () {SOUND})"
        total = sum((at + 1) * ord(sign) for at, sign in enumerate(line))
        self.assertEqual(write_object(("A", (), (), (), (), ((2, (("return", 1),)),))), f"{line}\nsum {total}\n")
        self.assertLess(total, 1000003)
        long = f"(\"{'A' * 3000}\" () () () () {SOUND})"
        total = sum((at + 1) * ord(sign) for at, sign in enumerate(long))
        self.assertEqual(read_object(f"{long}\nsum {total % 1000003}\n")[0], "A" * 3000)
        for text in (f"{long}\nsum {total}\n", f"{line}\n", line, f"{line}\nsum \n", f"{line}\nsum", summed(line)[:-1], summed(line) + "\n", summed(line) + " ",
                     summed(line).replace("sum ", "sum"), summed(line).replace("sum ", "sum  "), summed(line).replace("sum ", "sum 0"), summed(line).replace("sum ", "sum -"),
                     summed(line).replace("sum ", "Sum "), "\n" + summed(line), " " + summed(line), summed(line).replace("\nsum", " \nsum"), "", "\n", "sum 0\n", "\nsum 0\n",
                     summed(line).replace("\n", ""), summed(line).replace("\nsum", "\n\nsum")):
            self.refuses("text", text)

    def test_lines_that_are_none(self):
        good = f"() () () () {SOUND}"
        for line in (f"(\"A\" {good}", f"\"A\" {good}", f"(\"A\" {good}))", f"(\"A\"  {good})", f"( \"A\" {good})", f"(\"A\" {good} )", f"(\"A\" {good}) ", f" (\"A\" {good})", "()", "",
                     "5", "T", f"(A {good})", f"(5 {good})", f"(- {good})", f"(T {good})", f"(() {good})", "(\"A\" () () () ())", f"(\"A\" () () () {SOUND})", f"(\"A\" () {good})", f"({good})",
                     f"(\"A\" () () () () {SOUND} ())", f"(\"A\" 5 () () () {SOUND})", f"(\"A\" () - () () {SOUND})", f"(\"A\" () () \"\" () {SOUND})", f"(\"A\" () () () T {SOUND})",
                     f"(\"A\" (01) () () () {SOUND})", f"(\"A\" (-0) () () () {SOUND})", f"(\"A\" (-01) () () () {SOUND})", f"(\"A\" (1000000000000000000) () () () {SOUND})",
                     f"(\"A\" (-1000000000000000000) () () () {SOUND})", f"(\"A\" (--1) () () () {SOUND})", f"(\"A\" (1-) () () () {SOUND})", f"(\"A\" (TF) () () () {SOUND})",
                     f"(\"A\" (1,2) () () () {SOUND})", f"(\"A\" (1)(2) () () () {SOUND})", f"(\"A\" ()() () () {SOUND})", f"(\"A\" (\"\\a\") () () () {SOUND})",
                     f"(\"A\" (\") () () () {SOUND})", f"(\"A\" (\"\"\"\") () () () {SOUND})", f"(\"A\" (N) () () () {SOUND})", f"(\"A\" (None) () () () {SOUND})", f"(\"A\" (1 ) () () () {SOUND})",
                     f"(\"A\" (1  2) () () () {SOUND})", f"(\"A\" ([]) () () () {SOUND})", f"(\"A\" (+1) () () () {SOUND})", f"(\"A\" (t) () () () {SOUND})", "(" * 5000, ")" * 9, "(" * 3000 + ")" * 3000):
            self.refuses("text", summed(line))

    def test_code_that_is_none(self):
        for code in ("()", "5", "-", "\"code\"", "(())", "((2))", "((2 ()))", "((1 ((\"return\" 1))))", "((2 ((\"return\" 1))) 5)", "((T ((\"return\" 1))))", "((2 ((\"return\" T))))",
                     "((2 ((\"return\" -))))", "((2 ((\"return\" -1))))", "((2 ((\"Return\" 1))))", "((2 ((\"return\"))))", "((2 (return)))", "((2 (\"return\" 1)))",
                     "((2 ((\"tuple\" 1 ()) (\"return\" 1))))", "((2 ((\"choose\" 1 ((1 0) (\"a\" 0)) 0))))", "((2 ((\"switch\" 1 ((1 0) (0 0)) -))))", "((2 ((\"int\" 1 T) (\"return\" 1))))"):
            self.refuses("text", summed(f"(\"A\" () () () () {code})"))

    def test_code_that_is_not_sound(self):
        for code in ("((2 ((\"return\" 2))))", "((2 ((\"unguard\") (\"return\" 1))))", "((2 ((\"move\" 1 0))))", "((3 ((\"return\" 2))))", "((2 ((\"jump\" 1))))",
                     "((2 ((\"close\" 1 1 0) (\"return\" 1))))", "((2 ((\"prim\" 1 \"foo\" (1)) (\"return\" 1))))", "((2 ((\"prim\" 1 \"plus\" (1)) (\"return\" 1))))"):
            self.refuses("code", summed(f"(\"A\" () () () () {code})"))
            self.refuses("text", summed(f"(\"A\" () () () () {code})")[:-1], summed(f"(\"A\" () () () () {code} )"))

    def test_the_four_tuples_are_not_looked_at(self):
        self.reads(f"(\"\" (1) (\"x\" (T)) (-) ((((5))) -) {SOUND})", ("", (1,), ("x", (True,)), (None,), ((((5,),),), None), ((2, (("return", 1),)),)))

    def test_characters_at_all_places(self):
        table = {"A": interface(x=("int", 0))}
        found = compile_unit(("U", ("A",), "exception E of int val y = A.x val s = fn \"a\\\\\" => True | _ => False"), table)
        text = write_object(found)
        line = text.split("\n")[0]
        kept = 0
        for at in range(len(text) + 1):
            for changed in [text[:at] + text[at + 1:]] + [text[:at] + sign + text[at + end:] for sign in " \n\"\\-0T)(x" for end in (0, 1)]:
                if changed != text:
                    self.refuses("text", changed)
        for at in range(len(line) + 1):
            for changed in [line[:at] + line[at + 1:]] + [line[:at] + sign + line[at + end:] for sign in " \"\\-01T)(x" for end in (0, 1)]:
                try:
                    read = read_object(summed(changed))
                except errors.GuanacoError as error:
                    self.assertIs(type(error), errors.LinkError)
                    self.assertIn(error.reason, ("text", "code"))
                    continue
                kept += 1
                self.assertEqual(write_object(read), summed(changed))
        self.assertGreater(kept, 100)


if __name__ == "__main__":
    unittest.main()
