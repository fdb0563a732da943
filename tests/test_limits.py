"""The limits of trees and of open constructs (points 3 and 18)."""

import unittest

from guanaco.errors import LimitError
from guanaco.parser import parse, parse_expression, parse_ty
from guanaco.trees import height, size
from support import block, outcome


class Limits(unittest.TestCase):
    def within(self, function, text):
        return function(text)

    def beyond(self, function, text):
        with self.assertRaises(LimitError, msg=text[:80]):
            function(text)

    def test_nodes(self):
        self.assertEqual(size(self.within(parse_expression, block(800)))[0], 800)
        self.beyond(parse_expression, block(801))
        self.assertEqual(size(self.within(parse_ty, block(800, "t", " * ")))[0], 800)
        self.beyond(parse_ty, block(801, "t", " * "))
        # Each val has three nodes and those of its expression.
        self.assertEqual(size(self.within(parse, "val x=1 " * 59 + "val x=" + block(800 - 59 * 3 - 2)))[0], 800)
        self.beyond(parse, "val x=1 " * 59 + "val x=" + block(800 - 59 * 3 - 1))
        types = "signature S = sig val x : " + block(300, "t", "*") + " val y : " + block(496, "t", "*") + " end"
        self.assertEqual(size(self.within(parse, types))[0], 800)
        self.beyond(parse, types.replace("end", "type t end"))

    def test_depth(self):
        for function, first, last, depth in (
                (parse_expression, "!", "x", 1), (parse_expression, "raise ", "x", 1), (parse_expression, "fn x => ", "x", 1),
                (parse_ty, "t -> ", "t", 1), (parse, "val x = ", "1", 2)):
            if function is parse:
                self.assertEqual(size(self.within(parse, "val x = " + "!" * 28 + "1"))[1], 30)
                self.beyond(parse, "val x = " + "!" * 29 + "1")
            else:
                self.assertEqual(size(self.within(function, first * (30 - depth) + last))[1], 30)
                self.beyond(function, first * (31 - depth) + last)
        self.within(parse_ty, "t" + " t" * 29)
        self.beyond(parse_ty, "t" + " t" * 30)
        self.within(parse_expression, "f" + " x" * 29)
        self.beyond(parse_expression, "f" + " x" * 30)
        for text in ("f" + " x" * 1999, "!" * 3999 + "x", "x" + "+x" * 1900, "[" + "1," * 1900 + "1]", "x" + ":t" * 1900):
            self.beyond(parse_expression, text)
        for text in ("t" + " t" * 1999, "t" + "->t" * 1300):
            self.beyond(parse_ty, text)
        self.beyond(parse_expression, "fn x" + "::_" * 1200 + " => x")
        self.beyond(parse, "fun f" + " x" * 1900 + " = 1")
        self.beyond(parse, "structure S = T" + " : G" * 900)
        self.beyond(parse, "signature G = H" + " where type t = t" * 200)

    def test_depth_of_structures(self):
        nested = "structure S = struct "
        self.within(parse, nested * 14 + "val x = 1" + " end" * 14)
        self.assertEqual(size(parse(nested * 14 + "val x = 1" + " end" * 14))[1], 30)
        self.beyond(parse, nested * 14 + "val x = !1" + " end" * 14)
        self.assertEqual(size(self.within(parse, "structure S = " + "F (" * 28 + "T" + ")" * 28))[1], 30)
        self.beyond(parse, "structure S = " + "F (" * 29 + "T" + ")" * 29)

    def test_height(self):
        nine = "fn (a, (b, (c, (d, (e, (f, g)))))) => "
        exactly = nine * 8 + "fn (a, b, c, d, e) => !x"
        self.assertEqual(height(parse_expression(nine * 8 + "fn (a, b, c, d, e) => x")), 8 * 14 + 7 + 1)
        self.assertEqual(height(parse_expression(nine * 8 + "fn (a, b, c, d) => x")), 8 * 14 + 6 + 1)
        self.within(parse_expression, nine * 8 + "fn (a, b, c, d, e) => x")
        self.beyond(parse_expression, nine * 8 + "fn (a, b, c, d, e, f) => x")
        self.beyond(parse_expression, exactly)

    def test_height_of_other_matches(self):
        pattern = "(a, (b, (c, (d, (e, (f, g))))))"
        eight = f"case x of {pattern} => " * 8
        self.within(parse_expression, eight + "fn (a, b, c, d, e) => x")
        self.beyond(parse_expression, eight + "fn (a, b, c, d, e, f) => x")
        eight = f"x handle {pattern} => " * 8
        self.within(parse_expression, eight + "fn (a, b, c, d, e) => x")
        self.beyond(parse_expression, eight + "fn (a, b, c, d, e, f) => x")
        # One node for the fun, and one for the pattern of each clause.
        self.within(parse, "fun f 1 = 1 | f _ = " + f"fn {pattern} => " * 8 + "fn (a, b) => x")
        self.beyond(parse, "fun f 1 = 1 | f _ = " + f"fn {pattern} => " * 8 + "fn (a, b, c) => x")

    def test_parts_of_tuples(self):
        six, seven = ", ".join("abcdef"), ", ".join("abcdefg")
        self.within(parse_expression, f"({six})")
        self.beyond(parse_expression, f"({seven})")
        self.within(parse_expression, f"fn ({six}) => a")
        self.beyond(parse_expression, f"fn ({seven}) => a")
        self.within(parse_ty, " * ".join("abcdef"))
        self.beyond(parse_ty, " * ".join("abcdefg"))
        self.beyond(parse, f"val x = fn y => [({seven})]")
        self.beyond(parse, f"val [({seven})] = 1")
        self.beyond(parse, "exception E of (a * b * c * d * e * f * g) list")

    def test_parts_of_lists_and_sequences(self):
        self.within(parse_expression, "[" + ", ".join("a" * 14) + "]")
        self.within(parse_expression, "(" + "; ".join("a" * 30) + ")")
        self.beyond(parse_expression, "(" + "; ".join("a" * 31) + ")")

    def test_rules(self):
        def rules(count):
            return " | ".join(["_ => 1"] * count)
        for before in ("fn ", "case x of ", "x handle "):
            self.within(parse_expression, before + rules(16))
            self.beyond(parse_expression, before + rules(17))
        self.within(parse, "fun g _ = 2 and " + " | ".join(["f _ = 1"] * 16))
        self.beyond(parse, "fun g _ = 2 and " + " | ".join(["f _ = 1"] * 17))

    def test_pattern_of_a_val(self):
        for text in ("val {} = 1", "val x = let val {} = 1 in 1 end", "structure S = struct val {} = 1 end"):
            self.within(parse, text.format(block(100, "_")))
            self.beyond(parse, text.format(block(101, "_")))

    def test_constructors(self):
        def constructors(count):
            return " | ".join(f"C{k} of int" for k in range(count))
        self.within(parse, "datatype u = A and t = " + constructors(16))
        self.beyond(parse, "datatype u = A and t = " + constructors(17))
        self.within(parse, f"signature S = sig datatype t = {constructors(16)} end")
        self.beyond(parse, f"signature S = sig datatype t = {constructors(17)} end")

    def test_parameters(self):
        four, five = "('a, 'b, 'c, 'd)", "('a, 'b, 'c, 'd, 'e)"
        for text in ("datatype {} t = A", "type {} t = int", "signature S = sig type {} t end",
                     "signature S = sig type {} t = int end", "signature S = sig datatype {} t = A end",
                     "signature S = G where type {} t = int", "datatype t = A and {} u = B"):
            self.within(parse, text.format(four))
            self.beyond(parse, text.format(five))

    def test_outermost_declarations(self):
        self.within(parse, "val x = 1 " * 60)
        self.beyond(parse, "val x = 1 " * 61)
        self.within(parse, "structure S = struct " + "val x = 1 " * 61 + "end")


class OpenConstructs(unittest.TestCase):
    # The beginnings and ends of constructs of an expression, each open where the next one begins.
    KINDS = (("(", ")"), ("[", "]"), ("fn x => ", ""), ("case ", " of x => x"), ("if ", " then x else x"),
             ("if x then ", " else x"), ("if x then x else ", ""), ("raise ", ""), ("let val x = ", " in x end"),
             ("let in ", " end"), ("x handle x => ", ""), ("f (x, ", ")"), ("case x of x => ", ""))

    def nested(self, kinds, middle):
        return "".join(first for first, _ in kinds) + middle + "".join(last for _, last in reversed(kinds))

    def test_each_kind(self):
        for kind in self.KINDS:
            begin = kind[0]
            self.assertEqual(outcome(parse_expression, begin * 60 + "]"), "ParseError", begin)
            self.assertEqual(outcome(parse_expression, begin * 61 + "]"), "LimitError", begin)
            self.assertEqual(outcome(parse_expression, begin * 59 + "(;"), "ParseError", begin)
            self.assertEqual(outcome(parse_expression, begin * 60 + "(;"), "LimitError", begin)

    def test_mixed(self):
        kinds = [self.KINDS[k * 5 - k * 5 // 13 * 13] for k in range(60)]
        begins = "".join(begin for begin, _ in kinds)
        self.assertEqual(outcome(parse_expression, begins + "]"), "ParseError")
        for begin, _ in self.KINDS:
            self.assertEqual(outcome(parse_expression, begins + begin + "]"), "LimitError")
        self.assertEqual(outcome(parse_expression, self.nested(kinds, "x")), "LimitError")
        self.assertEqual(outcome(parse_expression, self.nested(kinds, "x") + " )"), "ParseError")

    def test_constructs_that_have_ended(self):
        ended = ["(x)", "[x]", "let in x end"]
        with_two = ["(fn x => x)", "(case x of x => x)", "(if x then x else x)", "(raise x)", "(x handle x => x)"]
        self.assertEqual(outcome(parse_expression, "(" * 59 + "f " + " ".join(ended) + " ]"), "ParseError")
        self.assertEqual(outcome(parse_expression, "(" * 58 + "f " + " ".join(ended + with_two) + " ]"), "ParseError")
        for text in with_two:
            self.assertEqual(outcome(parse_expression, "(" * 59 + "f " + text + " ]"), "LimitError")

    def test_patterns_and_types(self):
        for text in ("fn " + "(" * 59 + "]", "fn " + "[" * 59 + ")", "fn " + "A (" * 59 + "]", "x : " + "(" * 60 + "]"):
            self.assertEqual(outcome(parse_expression, text), "ParseError", text)
        for text in ("fn " + "(" * 60 + "]", "fn " + "[" * 60 + ")", "fn " + "A (" * 60 + "]", "x : " + "(" * 61 + "]",
                     "(" * 30 + "x : " + "(" * 31 + "]", "(" * 30 + "fn " + "(" * 30 + "]"):
            self.assertEqual(outcome(parse_expression, text), "LimitError", text)

    def test_structures(self):
        for before, begin in (("", "structure S = struct "), ("structure S = ", "F ("),
                              ("signature G = ", "sig structure S : ")):
            self.assertEqual(outcome(parse, before + begin * 60 + "]"), "ParseError", begin)
            self.assertEqual(outcome(parse, before + begin * 61 + "]"), "LimitError", begin)
        mixed = "structure S = struct " * 20 + "structure S = " + "F (" * 20 + "T : " + "sig structure S : " * 20
        self.assertEqual(outcome(parse, mixed + "]"), "ParseError")
        self.assertEqual(outcome(parse, mixed + "sig ]"), "LimitError")
        self.assertEqual(outcome(parse, mixed + "sig val x : ]"), "LimitError")
        self.assertEqual(outcome(parse, mixed[:-len("structure S : ")] + "val x : (]"), "LimitError")
        self.assertEqual(outcome(parse, "structure S = struct " * 59 + "val x = (fn"), "LimitError")

    def test_brackets_that_are_no_constructs(self):
        self.assertEqual(outcome(parse, "structure S = struct " * 60 + "datatype ('a, ]"), "ParseError")
        self.assertEqual(outcome(parse, "structure S = struct " * 60 + "type ('a) t = int ]"), "ParseError")


if __name__ == "__main__":
    unittest.main()
