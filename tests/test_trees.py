"""size, height and names (points 3, 12 and the interface of trees)."""

import copy
import random
import unittest

from generate import Maker
from guanaco.parser import parse, parse_expression, parse_ty
from guanaco.trees import height, names, size


def pattern(text):
    return parse_expression("fn " + text + " => 1")[1][0][0]


def only(text):
    return parse(text)[0]


class Sizes(unittest.TestCase):
    def check(self, trees):
        for tree, wanted in trees:
            self.assertEqual(size(tree), wanted, tree)

    def test_empty_program(self):
        self.assertEqual(size(()), (0, 0))
        self.assertEqual(height(()), 0)

    def test_expressions(self):
        self.check([(parse_expression(text), wanted) for text, wanted in [
            ("1", (1, 1)), ('"a"', (1, 1)), ("x", (1, 1)), ("S.A", (1, 1)), ("()", (1, 1)), ("(1, 2)", (3, 2)),
            ("f x", (3, 2)), ("fn x => 1", (3, 2)), ("fn x => 1 | _ => (1, 2)", (7, 3)), ("case 1 of x => x", (4, 2)),
            ("case (1, 2) of x => x", (6, 3)), ("if 1 then 2 else 3", (4, 2)), ("let in 1 end", (2, 2)),
            ("let val x = 1 in x end", (5, 3)), ("(1; 2)", (3, 2)), ("raise x", (2, 2)), ("x handle _ => 1", (4, 2)),
            ("1 : int", (3, 2)), ("1 : int list", (4, 3)), ("1 + 2", (5, 3)), ("a orelse b", (4, 2)), ("[]", (1, 1)),
            ("[1]", (5, 3)), ("~5", (1, 1)), ("~x", (3, 2)),
        ]])

    def test_patterns(self):
        self.check([(pattern(text), wanted) for text, wanted in [
            ("_", (1, 1)), ("x", (1, 1)), ("1", (1, 1)), ('"a"', (1, 1)), ("A", (1, 1)), ("A x", (2, 2)),
            ("(x, y)", (3, 2)), ("()", (1, 1)), ("x :: y", (4, 3)), ("[x]", (4, 3)), ("A (B (x, y))", (5, 4)),
        ]])

    def test_types(self):
        self.check([(parse_ty(text), wanted) for text, wanted in [
            ("'a", (1, 1)), ("int", (1, 1)), ("unit", (1, 1)), ("int * int", (3, 2)), ("int -> int", (3, 2)),
            ("(int, 'a) t", (3, 2)), ("int list list", (3, 3)), ("int -> int -> int", (5, 3)),
        ]])

    def test_declarations(self):
        self.check([(only(text), wanted) for text, wanted in [
            ("val x = 1", (3, 2)), ("val (x, y) = 1", (5, 3)), ("fun f x = 1", (3, 2)), ("fun f x y = 1", (5, 3)),
            ("fun f 1 = 2 | f _ = 3 and g x = (1, 2)", (9, 3)), ("datatype t = A", (1, 1)),
            ("datatype t = A of int * int | B and u = C of t", (5, 3)), ("type t = int list", (3, 3)),
            ("exception E", (1, 1)), ("exception E of int", (2, 2)), ("open S.T", (1, 1)), ("structure S = T", (2, 2)),
            ("structure S = struct end", (2, 2)), ("structure S = struct val x = 1 open S end", (6, 4)),
            ("structure S = F (T)", (3, 3)), ("structure S : G = T", (4, 3)), ("structure S = F (T : G) :> H", (7, 5)),
            ("signature G = H", (2, 2)), ("signature G = sig end", (2, 2)), ("functor F (X : G) = S", (3, 2)),
            ("functor F (X : G) : H = S", (5, 3)), ("signature G = H where type 'a t = 'a list", (5, 4)),
        ]])

    def test_specifications(self):
        self.check([(only(f"signature G = sig {text} end")[2][1][0], wanted) for text, wanted in [
            ("val x : int", (2, 2)), ("type t", (1, 1)), ("type t = int", (2, 2)), ("datatype t = A | B of int", (2, 2)),
            ("exception E", (1, 1)), ("exception E of int", (2, 2)), ("structure S : G", (2, 2)),
            ("structure S : sig type t val x : t end", (5, 4)),
        ]])

    def test_structure_and_signature_expressions(self):
        self.check([(("path", ("S",)), (1, 1)), (("struct", ()), (1, 1)), (("apply", "F", ("path", ("S",))), (2, 2)),
                    (("seal", ("path", ("S",)), ("signame", "G"), True), (3, 2)), (("signame", "G"), (1, 1)),
                    (("sig", ()), (1, 1)), (("where", ("signame", "G"), ("t",), (), ("tycon", ("t",), ())), (3, 2))])

    def test_programs(self):
        self.assertEqual(size(parse("val x = 1 val y = (1, 2)")), (8, 3))
        self.assertEqual(size(parse("exception E")), (1, 1))

    def test_deep_trees(self):
        tree = ("int", 1)
        for _ in range(5000):
            tree = ("raise", tree)
        self.assertEqual(size(tree), (5001, 5001))


class Heights(unittest.TestCase):
    def check(self, trees):
        for tree, wanted in trees:
            self.assertEqual(height(tree), wanted, tree)

    def test_without_rules(self):
        for text in ("1", "(1, 2)", "f x y", "let val (x, y) = 1 in x end", "if 1 then 2 else (3, 4)", "1 : int list"):
            tree = parse_expression(text)
            self.assertEqual(height(tree), size(tree)[1], text)
        for text in ("datatype t = A of int list", "structure S = struct type t = int end : sig type t = int list end",
                     "val (x, (y, z)) = 1", "signature S = sig val x : int -> int end"):
            tree = only(text)
            self.assertEqual(height(tree), size(tree)[1], text)

    def test_through_rules(self):
        self.check([(parse_expression(text), wanted) for text, wanted in [
            ("fn x => 1", 3), ("fn (x, y) => 1", 5), ("fn x => 1 | _ => 2", 4), ("fn x => (1, 2) | (x, y) => 1", 7),
            ("case 1 of x => 1", 3), ("case (1, (2, (3, 4))) of x => 1", 5), ("case 1 of (x, y) => 1 | _ => 2", 6),
            ("1 handle _ => 2", 3), ("(1, (2, (3, 4))) handle _ => 2", 5), ("1 handle A x => 1 | B => 2", 5),
            ("fn x => fn (y, z) => 1", 7), ("fn ((x, y), z) => 1", 7), ("(fn x => 1, fn (x, y) => 1)", 6),
            ("let val (x, y) = fn z => 1 in 1 end", 5),
        ]])

    def test_a_pattern_alone_does_not_count(self):
        # The way into a pattern is its depth; a body counts all patterns of its match, whichever rule it is of.
        self.check([(parse_expression("fn (x, (y, z)) => 1"), 7), (pattern("(x, (y, z))"), 3)])

    def test_functions_of_a_fun(self):
        self.check([(only("fun f x = 1"), 3), (only("fun f (x, y) = 1 and g x = (1, 2)"), 5),
                    (only("fun f 1 = 2 | f _ = (1, 2) and g (x, (y, z)) = 1"), 7), (only("fun f x (y, z) = 1"), 7),
                    (only("structure S = struct fun f (x, y) = 1 end"), 7)])

    def test_programs(self):
        self.assertEqual(height(parse("val x = 1 fun f (x, y) = 1 exception E")), 5)

    def test_each_is_at_least_the_depth(self):
        for seed in range(200):
            maker = Maker(random.Random(seed))
            tree = maker.expression(6)
            self.assertGreaterEqual(height(tree), size(tree)[1])
            program = tuple(maker.outermost(5) for _ in range(3))
            self.assertEqual(height(program), max(height(part) for part in program))
            self.assertEqual(size(program), (sum(size(part)[0] for part in program), max(size(part)[1] for part in program)))


class Names(unittest.TestCase):
    def test_names(self):
        cases = {"_": [], "x": ["x"], "(x, y)": ["x", "y"], "A (y, B x)": ["y", "x"], "z :: [y, x]": ["z", "y", "x"],
                 "((a, b), (c, (d, e)))": list("abcde"), "1": [], '"x"': [], "()": [], "A": [], "S.A x": ["x"]}
        for text, wanted in cases.items():
            self.assertEqual(names(pattern(text)), wanted, text)

    def test_a_new_list_each_time(self):
        tree = pattern("(x, y)")
        names(tree).append("z")
        self.assertEqual(names(tree), ["x", "y"])


class Arguments(unittest.TestCase):
    def test_trees_are_not_changed(self):
        for seed in range(50):
            tree = Maker(random.Random(seed)).expression(5)
            before = copy.deepcopy(tree)
            size(tree)
            height(tree)
            self.assertEqual(tree, before)


if __name__ == "__main__":
    unittest.main()
