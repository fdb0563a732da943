"""Sessions (points 135 and 136)."""

import unittest

from guanaco.assembly import read_code
from guanaco.build import Build
from guanaco.session import session
from guanaco.units import read_object, write_object

LIBRARY = """unit Lib
fun map f l = case l of [] => [] | x :: r => f x :: map f r
val count = ref 0
fun tick s = (count := !count + 1; print s)
datatype t = T of int
val hidden = T 1
exception Gone of int
val gone = Gone 3
.
unit Main Lib
val x = Lib.map (fn n => n + 1) [1, 2]
val _ = Lib.tick "a \\"b\\"\\n\\\\"
val y = Lib.tick ""
.
"""


class Sessions(unittest.TestCase):
    def answers(self, text, *lines):
        self.assertEqual(session(text), list(lines), text)

    def errors(self, *lines):
        """Each of these lines is none, also with a build behind it."""
        for line in lines:
            self.answers(line + "\n", "error 1")
            self.answers(line, *([] if line == "" else ["error 1"]))
            self.answers(f"build\n{line}\nbuild\n", "built", "error 2", "built")

    def test_no_lines(self):
        self.answers("")
        self.answers("\n", "error 1")
        self.answers("\n\n", "error 1", "error 2")
        self.answers("build", "built")
        self.answers("build\n", "built")
        self.answers("build\n\n", "built", "error 2")

    def test_lines_that_are_none(self):
        self.errors("", " ", ".", "builds", "Build", "build ", " build", "build A", "build  ", "unit", "unit a", "unit ", "unit A a", "unit A A", "unit A B B", "unit A B A", "unit A  B",
                    "unit A B ", "unit 1", "unit A.B", "unit A,B", "unit " + "A" * 25, "unit A_- B", "unit _A", "unit A " + "B" * 25, "drop", "drop a", "drop A B", "drop ", "drop A ",
                    "interface", "interface a", "interface A B", "object", "object x", "object A A", "code", "code 5", "code A B", "run", "run A", "run A 1", "run A 1 1", "run A 1 1 1 1",
                    "run a 1 1 1", "run 1 1 1 A", "run A  1 1 1", "run A 1 1 1 ", "run A 01 1 1", "run A 1 01 1", "run A 1 1 01", "run A 00 1 1", "run A 20001 1 1", "run A 100000 1 1",
                    "run A 1 100000 1", "run A 1 1 100000", "run A 1 0 1", "run A 1 1 0", "run A -1 1 1", "run A 1 1 x", "run A +1 1 1", "run A 1.0 1 1", "quit", "val x = 1", "(* *)",
                    "run A  1 1", "run A 1  1", "run A 1 1 ", "run  1 1 1", "run A 000001 1 1", "run A 0 00001 1", "run A 99999 1 1")

    def test_names(self):
        for name in ("A", "A1", "A'", "A_b", "Zz9", "A" * 24, "Type", "Val"):
            self.answers(f"unit {name}\nval x = 1\n.\nbuild\ninterface {name}\ndrop {name}\nbuild\nobject {name}\n", f"built {name}", "val x : int", "built", "none")

    def test_numbers(self):
        for words in ("0 1 1", "20000 1 1", "9 99999 99999", "1 1 99999"):
            self.answers(f"unit A\n.\nbuild\nrun A {words}\n", "built A", "more" if words[0] in "01" else "done")

    def test_the_text_of_a_unit(self):
        """All lines up to the period, each with its newline; commands in it are text."""
        self.answers("unit A\n\nval x =\n  1\n\n.\nbuild\ninterface A", "built A", "val x : int")
        self.answers("unit A\nval x = \"\n.\nbuild\ninterface A\n", "built A", "failed text TokenError")
        self.answers("unit A\nbuild\n.\nbuild\ncode A", "built A", "failed text ParseError")
        self.answers("unit A\nval x = 1\n .\nval y = 2\n. \n.\nbuild\ncode A\n", "built A", "failed text ParseError")
        self.answers("unit A\nval x = 1 (* \n..\n*)\n.\nbuild\ninterface A\n", "built A", "val x : int")
        self.answers("unit A\n" + " " * 3999 + "\n.\nunit B\n" + " " * 4000 + "\n.\nbuild\ninterface A\ninterface B\n", "built A B", "failed text LimitError")
        self.answers("unit A\n.", )
        self.answers("unit A\n.\nbuild\nrun A 2 1 1\n", "built A", "done")

    def test_a_unit_without_a_period(self):
        self.answers("unit A", "error 1")
        self.answers("unit A\n", "error 1")
        self.answers("build\nunit A\nbuild\nbuild\n", "built", "error 2")
        self.answers("build\nunit A B\nval x = 1\n\nunit C\n. \n", "built", "error 2")
        self.answers("build\nunit A\nval x = 1\nunit B\n.\nbuild\n", "built", "built A")
        self.answers("build\nunit A\n.\nunit B\nbuild", "built", "error 4")

    def test_a_unit_with_a_name_twice(self):
        """It is answered by itself: the lines behind it are commands."""
        self.answers("unit A B B\nbuild\n.\nbuild\n", "error 1", "built", "error 3", "built")
        self.answers("unit A A\nunit B\nval x = 1\n.\nbuild\n", "error 1", "built B")
        self.answers("unit A A\n", "error 1")

    def test_units_and_drops_are_noted(self):
        self.answers("unit A\nval x = 1\n.\ninterface A\nbuild\nunit A\nval y = True\n.\ninterface A\nbuild\ninterface A\ndrop A\ninterface A\nbuild\ninterface A\n",
                     "none", "built A", "val x : int", "built A", "val y : bool", "val y : bool", "built", "none")
        self.answers("unit A\n.\ndrop A\nbuild\nobject A\n", "built", "none")
        self.answers("drop A\nunit A\n.\nbuild\nbuild\n", "built A", "built")
        self.answers("unit B A\nval y = A.x\n.\nunit A\nval x = 1\n.\nbuild\nunit A\nval x = 2\n.\nbuild\nunit A\nval z = 0 val x = 2\n.\nbuild\n", "built A B", "built A", "built A B")

    def test_none_and_failed(self):
        for command in ("interface {}", "object {}", "code {}", "run {} 1 1 1"):
            text = "unit A\nval x = y\n.\nunit B A\n.\nunit C D C'\n.\nunit D C\n.\nbuild\n" + "".join(command.format(name) + "\n" for name in "ABCDE")
            self.answers(text, "built A", "failed text ScopeError", "failed import A", "failed import D", "failed import C", "none")
            self.answers(command.format("A") + "\nbuild\n", "none", "built")

    def test_interface(self):
        self.answers("unit A\nval f = fn x => fn (y, z) => (x, z) val r = ref [()] datatype t = T val t = T fun g (a, b) = a b val e = Div val p = (1, (\"a\", True))\n.\nbuild\ninterface A\n",
                     "built A", "val f : 'a -> 'b * 'c -> 'a * 'c", "val r : unit list ref", "val g : ('a -> 'b) * 'a -> 'b", "val e : exn", "val p : int * (string * bool)")
        self.answers("unit A\n.\nunit B\ndatatype t = T val x = T\n.\nbuild\ninterface A\ninterface B\n", "built A B")

    def test_object_and_code(self):
        build = Build()
        build.apply([("put", ("Lib", (), "\n".join(LIBRARY.split("\n")[1:8]) + "\n")), ("put", ("Main", ("Lib",), "\n".join(LIBRARY.split("\n")[10:13]) + "\n"))])
        for name in ("Lib", "Main"):
            o = build.state(name)[1]
            self.assertEqual(session(LIBRARY + f"build\nobject {name}\n"), ["built Lib Main", write_object(o).split("\n")[0]])
            found = session(LIBRARY + f"build\ncode {name}\n")
            self.assertEqual(read_code("\n".join(found[1:]) + "\n"), o[5])
            self.assertEqual(read_object(write_object(o)), o)
        self.assertEqual(session("unit A\n.\nbuild\ncode A\nobject A\n")[1:], [
            "function 0 slots 3", "tag r2 0", "close r2 #1 r2", "return r2", "function 1 slots 3", "tag r2 0", "return r2",
            "(\"A\" () () () (() ((\"bool\" () ((\"False\" -) (\"True\" -))) (\"list\" (\"a\") ((\"Nil\" -) (\"Cons\" (\"tuple\" ((\"var\" \"a\") "
            "(\"con\" \"list\" ((\"var\" \"a\"))))))))) ()) ((3 ((\"tag\" 2 0) (\"close\" 2 1 2) (\"return\" 2))) (3 ((\"tag\" 2 0) (\"return\" 2)))))"])

    def test_run(self):
        self.answers(LIBRARY + "build\nrun Main 2000 5 5\nrun Lib 9 1 1\nrun Main 0 1 1\n", "built Lib Main", "\"a \\\"b\\\"\\n\\\\\"", "\"\"", "done", "val x", "val y",
                     "done", "val map", "val count", "val tick", "val hidden", "val gone", "more")
        self.answers("unit A\nexception E of int val a = print \"x\" val x = raise E 1\n.\nbuild\nrun A 100 1 1\n", "built A", "\"x\"", "raised E")
        self.answers("unit A\nval x = 1 div 0\n.\nbuild\nrun A 100 1 1\nrun A 2 1 1\n", "built A", "raised Div", "more")
        self.answers("unit A\nfun f n = (ref n; f n) val x = f 1\n.\nbuild\nrun A 20000 10 10\nrun A 2000 10 10\n", "built A", "full", "more")
        self.answers("unit A\nfun f n = (print \"a\"; f n) val x = f 1\n.\nbuild\nrun A 20000 10 10\n", "built A", *["\"a\""] * 200, "full")
        self.answers("unit A\nval x = 1 val (y, x) = (2, 3) val _ = 5\n.\nbuild\nrun A 2 1 1\n", "built A", "done", "val y", "val x")

    def test_each_run_is_a_new_one(self):
        text = "unit A\nval r = ref 0 fun next _ = (r := !r + 1; print (digits (!r)))\n.\nunit B A\nval x = A.next () val y = A.next ()\n.\nbuild\n"
        run = ["\"1\"", "\"2\"", "done", "val x", "val y"]
        self.answers(text + "run B 100 1 1\nrun B 100 9 9\nrun A 100 1 1\n", "built A B", *run, *run, "done", "val r", "val next")

    def test_the_linked_run(self):
        """The run is that of all units that are needed, and of no others."""
        text = "unit C\nval x = print \"c\"\n.\nunit A\nval x = print \"a\"\n.\nunit B A\nval y = print \"b\"\n.\nbuild\n"
        self.answers(text + "run B 100 1 1\nrun C 100 1 1\n", "built A B C", "\"a\"", "\"b\"", "done", "val y", "\"c\"", "done", "val x")

    def test_answers_are_the_callers_own(self):
        first = session("build\n")
        first.append("more")
        self.answers("build\n", "built")
        self.answers("object A\n", "none")


if __name__ == "__main__":
    unittest.main()
