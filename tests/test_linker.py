"""Linking (points 130 and 131)."""

import copy
import random
import unittest

from cores import A, EXN, INT, START
from guanaco.assembly import write_code
from guanaco.errors import LinkError
from guanaco.expansion import expanded_size
from guanaco.inspect import is_sound
from guanaco.linker import link
from guanaco.machine import run_code
from guanaco.parser import parse
from guanaco.units import compile_unit
from running import FULL, MORE, STUCK, agree
from unit_runs import order_of, random_units, run_units

BARE = ((), START, ())
X = (("x", ((), INT), 0),)
Y = (("y", ((), INT), 0),)


def bare(name, imports=(), needs=None, interface=(), info=BARE):
    """An object of which the function gives the empty tuple."""
    code = ((3, (("tag", 2, 0), ("close", 2, 1, 2), ("return", 2))), (3, (("tag", 2, 0), ("return", 2))))
    return name, imports, ((),) * len(imports) if needs is None else needs, interface, info, code


def objects_of(*units):
    """The objects of units, which stand behind their imports."""
    found = {}
    for unit in units:
        found[unit[0]] = compile_unit(unit, {name: found[name][3] for name in unit[1]})
    return list(found.values())


class Reasons(unittest.TestCase):
    def refuses(self, reason, objects, main="M"):
        for rows in (objects, list(reversed(objects))):
            with self.assertRaises(LinkError) as caught:
                link(rows, main)
            self.assertIs(type(caught.exception), LinkError)
            self.assertEqual(caught.exception.reason, reason)

    def test_each_reason(self):
        self.refuses("twice", [bare("M"), bare("M")])
        self.refuses("twice", [bare("M"), bare("A"), bare("A")])
        self.refuses("missing", [])
        self.refuses("missing", [bare("A")])
        self.refuses("missing", [bare("M", ("A",))])
        self.refuses("missing", [bare("M", ("A",)), bare("A", ("B",))])
        self.refuses("cycle", [bare("M", ("M",))])
        self.refuses("cycle", [bare("M", ("A",)), bare("A", ("M",))])
        self.refuses("cycle", [bare("M", ("A",)), bare("A", ("B",)), bare("B", ("C", "D")), bare("C", ("A",)), bare("D")])
        self.refuses("interface", [bare("M", ("A",), (X,)), bare("A")])
        self.refuses("interface", [bare("M", ("A",), (X,)), bare("A", (), None, Y)])
        self.refuses("interface", [bare("M", ("A",), (X,)), bare("A", (), None, X + Y)])
        self.refuses("interface", [bare("M", ("A",), (X,)), bare("A", (), None, (("x", ((), INT), 1),))])
        self.refuses("interface", [bare("M", ("A", "B"), (X, Y)), bare("A", (), None, Y), bare("B", (), None, X)])
        self.refuses("interface", [bare("M", ("A",)), bare("A", ("B",), (X,)), bare("B")])

    def test_their_order(self):
        twice, missing, cycle = [bare("T"), bare("T")], bare("P", ("Q",)), [bare("C", ("D",)), bare("D", ("C",))]
        wrong = [bare("I", ("J",), (X,)), bare("J")]
        main = bare("M", ("P", "C", "I"), ((), (), ()))
        self.refuses("twice", [main, missing, *cycle, *wrong, *twice])
        self.refuses("missing", [main, missing, *cycle, *wrong])
        self.refuses("missing", [main, missing, *wrong])
        self.refuses("cycle", [main, bare("P"), *cycle, *wrong])
        self.refuses("interface", [main, bare("P"), bare("C"), *wrong])
        self.refuses("twice", [main, *wrong, *twice, missing])
        self.refuses("twice", twice + [bare("A")])
        self.refuses("missing", wrong + cycle)
        link([main, bare("P"), bare("C"), bare("I", ("J",)), bare("J")], "M")

    def test_objects_that_are_not_needed(self):
        """Only "twice" is asked of them."""
        rest = [bare("P", ("Q",)), bare("C", ("D",)), bare("D", ("C",)), bare("I", ("J",), (X,)), bare("J"), bare("S", ("S",)), bare("Z", ("M",), (X,))]
        self.assertEqual(link([bare("M")] + rest, "M"), link([bare("M")], "M"))
        self.assertEqual(link(rest[:3] + [bare("M", ("J",))] + rest[3:], "M"), link([bare("M", ("J",)), bare("J")], "M"))

    def test_the_list_stays(self):
        objects = objects_of(("B", (), "val x = 1"), ("A", ("B",), "val y = B.x"), ("M", ("A", "B"), "val z = A.y + B.x"))
        rows = list(reversed(objects))
        before = copy.deepcopy(rows)
        first = link(rows, "M")
        self.assertEqual(rows, before)
        for order in ((0, 1, 2), (1, 0, 2), (2, 0, 1), (1, 2, 0), (0, 2, 1)):
            self.assertEqual(link([objects[k] for k in order], "M"), first)


class LinkedCode(unittest.TestCase):
    def order(self, main, *rows):
        """The names in the order of the linked code, by their functions."""
        objects = []
        for k, (name, *imports) in enumerate(rows):
            row = bare(name, tuple(imports))
            objects.append(row[:-1] + ((row[5][0], (3, (("int", 2, k), ("return", 2)))),))
        code, _ = link(objects, main)
        return "".join(rows[function[1][0][2]][0] for function in code[1:] if function[1][0][0] == "int")

    def test_orders(self):
        self.assertEqual(self.order("M", "M"), "M")
        self.assertEqual(self.order("M", "MAB", "B", "A"), "ABM")
        self.assertEqual(self.order("M", "MZA", "ZB", "A", "B"), "ABZM")
        self.assertEqual(self.order("M", "MAZ", "AZ", "Z"), "ZAM")
        self.assertEqual(self.order("Z", "ZABC", "AC", "BC", "CDE", "EF", "DF", "F"), "FDECABZ")
        self.assertEqual(self.order("A", "ABC", "BD", "C", "D"), "CDBA")
        self.assertEqual(self.order("a", "ab", "b", "B"), "ba")

    def test_function_0(self):
        rows = [bare("M", ("C", "A")), bare("A", ("C",)), bare("C")]
        code, info = link(rows, "M")
        self.assertEqual(write_code(code), """function 0 slots 14
close r2 #1 r0
call r3 r2 r1
tag r4 0
call r5 r3 r4
close r6 #3 r0
call r7 r6 r1
tuple r8 (r5)
call r9 r7 r8
close r10 #5 r0
call r11 r10 r1
tuple r12 (r5,r9)
call r13 r11 r12
return r13
""" + "".join(f"function {k} slots 3\ntag r2 0\nclose r2 #{k + 1} r2\nreturn r2\nfunction {k + 1} slots 3\ntag r2 0\nreturn r2\n" for k in (1, 3, 5)))
        self.assertEqual(info, BARE)
        self.assertTrue(is_sound(code))
        self.assertEqual(run_code(code, info, 6, 1, 1), ((), ("done", ())))
        self.assertEqual(run_code(code, info, 5, 1, 1), ((), MORE))

    def test_one_unit(self):
        code, info = link([bare("M")], "M")
        self.assertEqual(code[0], (6, (("close", 2, 1, 0), ("call", 3, 2, 1), ("tag", 4, 0), ("call", 5, 3, 4), ("return", 5))))

    def test_functions_and_exceptions(self):
        """All numbers in `close` and `fresh` are increased, and no others."""
        row = (("fresh", 2, 0), ("fresh", 2, 3), ("close", 2, 1, 0), ("close", 2, 0, 1), ("part", 2, 1, 0), ("int", 2, 1), ("guard", 2, 7), ("unguard",), ("return", 1))
        exceptions = tuple((name, None) for name in "EFGH")
        objects = [bare("M", ("A", "B"))[:4] + (((), START, exceptions), ((3, row), (3, row))), bare("A")[:4] + (((), START, exceptions[:3]), ((2, row[-1:]),)),
                   bare("B")[:4] + (((), START, exceptions[1:]), ((3, row[:3] + row[-1:]), (2, row[-1:])))]
        code, info = link(objects, "M")
        self.assertEqual([len(function[1]) for function in code], [13, 1, 4, 1, 9, 9])
        self.assertEqual(code[2], (3, (("fresh", 2, 3), ("fresh", 2, 6), ("close", 2, 3, 0), ("return", 1))))
        moved = (("fresh", 2, 6), ("fresh", 2, 9), ("close", 2, 5, 0), ("close", 2, 4, 1)) + row[4:]
        self.assertEqual(code[4:], ((3, moved),) * 2)
        self.assertEqual([instruction for instruction in code[0][1] if instruction[0] == "close"], [("close", 2, 1, 0), ("close", 6, 2, 0), ("close", 10, 4, 0)])
        self.assertEqual(info[2], exceptions[:3] + exceptions[1:] + exceptions)

    def test_info(self):
        """Type constructors have the name of their unit in front, but for those of the start."""
        t = ("con", "t.1", (INT,))
        data = START + (("t.1", ("a",), (("L", A), ("R", ("tuple", (("con", "t.1", (A,)), ("con", "list", (("con", "ref", (A,)),)))))),), ("bool.2", (), (("N", None),)))
        shown = (("v", (("a",), ("fun", A, ("con", "hid.7", (t,)))), "v.5", ("t3",), ("fun", ("var", "t3"), t)), ("w", ((), EXN), "w.1", (), EXN))
        exceptions = (("E", t), ("F", None), ("t", ("con", "string", ())))
        other = START + (("t.1", (), (("Q", None),)),)
        objects = [bare("M", ("A'",), None, (), (shown, data, exceptions)), bare("A'", (), None, (), ((("x", ((), t), "x.1", (), t),), other, exceptions[:2]))]
        _, info = link(objects, "M")
        mt = ("con", "M.t.1", (INT,))
        self.assertEqual(info, (
            (("v", (("a",), ("fun", A, ("con", "M.hid.7", (mt,)))), "v.5", ("t3",), ("fun", ("var", "t3"), mt)), ("w", ((), EXN), "w.1", (), EXN)),
            START + (("A'.t.1", (), (("Q", None),)), ("M.t.1", ("a",), (("L", A), ("R", ("tuple", (("con", "M.t.1", (A,)), ("con", "list", (("con", "ref", (A,)),)))))),),
                     ("M.bool.2", (), (("N", None),))),
            (("E", ("con", "A'.t.1", (INT,))), ("F", None), ("E", mt), ("F", None), ("t", ("con", "string", ())))))


UNITS = (
    ("Lib", (), "fun map f l = case l of [] => [] | x :: r => f x :: map f r datatype t = T of int exception Lost of t val lost = Lost (T 5) fun lose x = raise lost "
     "val count = ref 0 fun tick () = (count := !count + 1; print (\"t\" ^ digits (!count)); !count) val hidden = T 1"),
    ("Exn", (), "exception Lost of string val lost = Lost \"s\" val a = 1 handle Lost s => 2 datatype u = A | B of u val e = print \"Exn\""),
    ("Mid", ("Lib", "Exn"), "val n = Lib.tick () exception Lost val l = [Lib.lost, Exn.lost, Lost, Div] fun name e = case e of Lost => \"own\" | Div => \"div\" | _ => \"other\" "
     "val names = Lib.map name l val m = Lib.tick () datatype u = C of int | D val d = [C 3, D]"),
    ("Main", ("Mid", "Lib"), "val x = Lib.map (fn n => n + Mid.m) [1, 2] val y = Lib.tick () val z = Mid.l val w = (Lib.lose 1) handle e => Mid.name e val c = Lib.count"),
)


class Runs(unittest.TestCase):
    def agrees(self, units, objects, main, fuels, sizes=((1, 1), (3, 7), (50, 20))):
        interfaces = {row[0]: row[3] for row in objects}
        code, info = link(objects, main)
        self.assertTrue(is_sound(code))
        order = order_of(units, main)
        texts = {name: text for name, _, text in units}
        bound = sum(expanded_size(parse(texts[name])) for name in order)
        for fuel in fuels:
            wanted = run_units(units, interfaces, order, fuel)
            self.assertNotEqual(wanted[1], STUCK)
            for young, limit in sizes:
                found = run_code(code, info, fuel, young, limit)
                self.assertTrue(agree(wanted, found), (units, main, fuel, wanted, found))
            enough = run_code(code, info, min(400000, 2 * bound * (fuel + 1) + 2 * len(order)), 7, 9)
            self.assertTrue(agree(wanted, enough), (units, main, fuel))
            if wanted[1] != MORE:
                self.assertNotEqual(enough[1], MORE, (units, main, fuel))

    def test_units(self):
        objects = objects_of(*UNITS)
        for main in ("Lib", "Exn", "Mid", "Main"):
            self.agrees(UNITS, objects, main, list(range(0, 40, 3)) + [100, 2000])
        code, info = link(objects, "Main")
        outputs, end = run_code(code, info, 2000, 3, 3)
        self.assertEqual(outputs, ("Exn", "t1", "t2", "t3"))
        bindings = dict(end[1])
        self.assertEqual([name for name, _ in end[1]], ["x", "y", "z", "w", "c"])
        self.assertEqual(bindings["w"], ("string", "other"))
        self.assertEqual(bindings["c"], ("ref", ("int", 3)))
        self.assertIn(("exn", "Lost", ("con", "T", ("int", 5))), [bindings["z"][2][1][0]])
        self.assertEqual(bindings["z"][2][1][1][2][1][0], ("exn", "Lost", ("string", "s")))

    def test_raised_by_an_import(self):
        units = (("A", (), "exception E of int val f = fn n => raise E n val g = E 7 val b = f"), ("B", ("A",), "val x = print \"b\" val y = raise A.g"), ("M", ("B",), "val z = 1"))
        objects = objects_of(*units)
        self.agrees(units, objects, "M", (0, 1, 2, 5, 100))
        self.assertEqual(run_code(*link(objects, "M"), 100, 1, 1), (("b",), ("raised", "E", ("int", 7))))

    def test_one_fuel_one_row_of_outputs_one_number_of_references(self):
        loop = "fun f n = if n = 0 then () else (ref n; f (n - 1)) val x = f {} val y = print \"{}\""
        for first, second, end in ((500, 500, "done"), (600, 401, "full"), (1001, 0, "full"), (0, 1001, "full")):
            units = (("A", (), loop.format(first, "a")), ("M", ("A",), loop.format(second, "m")))
            objects = objects_of(*units)
            self.assertEqual(run_code(*link(objects, "M"), 20000, 9, 9)[1][0], end)
            self.agrees(units, objects, "M", (0, 1000, 20000), ((9, 9),))
        say = "fun f n = if n = 0 then () else (print \"a\"; f (n - 1)) val x = f {}"
        for first, second, end in ((100, 100, "done"), (100, 101, "full")):
            objects = objects_of(("A", (), say.format(first)), ("M", ("A",), say.format(second)))
            self.assertEqual(run_code(*link(objects, "M"), 20000, 9, 9)[1][0], end)
        self.assertEqual(run_code(*link(objects, "M"), 20000, 9, 9), (("a",) * 200, FULL))

    def test_units_without_values(self):
        units = (("A", (), "datatype t = T val x = T"), ("B", ("A",), ""), ("M", ("A", "B"), "val y = print \"m\""))
        objects = objects_of(*units)
        self.agrees(units, objects, "M", (0, 3, 6, 7, 8, 50))
        self.agrees(units, objects, "B", (0, 3, 50))

    def test_an_import_has_the_values_of_its_interface_alone(self):
        units = (("A", (), "val x = 1 datatype t = T val x = T val y = 2 val z = 3 val y = (T, 4)"), ("M", ("A",), "open A val y = 5 val w = (y, z) structure B = A val q = B.z"))
        objects = objects_of(*units)
        self.assertEqual([row[0] for row in objects[0][3]], ["z"])
        self.agrees(units, objects, "M", (0, 9))

    def test_random_units(self):
        for seed in range(80):
            table = {}
            for units, interfaces in random_units(random.Random(seed), 5):
                table[units[-1][0]] = compile_unit(units[-1], interfaces)
                interfaces[units[-1][0]] = table[units[-1][0]][3]
            objects = list(table.values())
            random.Random(seed).shuffle(objects)
            for name in table:
                self.agrees(units, objects, name, (0, 2, 9, 40, 2000), ((1, 1), (4, 7)))


if __name__ == "__main__":
    unittest.main()
