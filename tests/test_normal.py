"""The normal form: translation, closed blocks, sizes and numbers (points 100 to 104)."""

import random
import unittest

import cores
from cores import BOOL, DATA, EXN, INT, STRING, T, UNIT, fun, let, listed, program, shown, var
from guanaco.checker import check
from guanaco.elaborate import elaborate
from guanaco.errors import CheckError
from guanaco.normal import is_closed, measure, normalize, renumber
from guanaco.parser import parse
from programs import Writer
from test_elaborate import PROGRAMS
from units import BLOCKS, NO, bind, call, fix, give, i, n, prim, s, select, steps_of, throw

ONE = ("int", 1)
TWO = ("int", 2)


def block(*parts):
    return ("block", parts[:-1], parts[-1])


def translated(e, ty=INT):
    """The block of a program that shows an expression."""
    return normalize(program(let("x.0", ty, e), show=(shown("x", "x.0", ty),)))[0]


def within(e):
    """The block of a function with a body."""
    whole = normalize(program(("fix", (("f.90", (), INT, "p.91", INT, e),))))[0]
    return whole[0][0][1][0][2]


class Normalization(unittest.TestCase):
    def computed(self, e, *steps, atom=None):
        """Tests N: the steps, behind which the program shows the atom, or what the last step binds."""
        if atom is None:
            atom = n(steps[-1][1][0][0] if steps[-1][0] == "fix" else steps[-1][1])
        wanted = steps + (bind(99, "tuple", (atom,)),)
        self.assertEqual(translated(e), renumber((wanted, ("give", n(99)))), e)

    def test_atoms(self):
        for e, atom in ((ONE, i(1)), (("string", "a"), s("a")), (("con", "t.1", (), 0, None), ("tag", 0)),
                        (("con", "bool", (), 1, None), ("tag", 1)), (("tuple", ()), NO)):
            self.computed(e, atom=atom)
            self.assertEqual(within(e), give(atom))
            self.computed(block(let("y.1", INT, e), var("y.1")), atom=atom)
            self.computed(("tuple", (e, e)), bind(0, "tuple", (atom, atom)))

    def test_operations(self):
        plus = ("prim", "plus", (ONE, TWO))
        self.computed(plus, prim(0, "plus", i(1), i(2)))
        self.computed(("prim", "negate", (plus,)), prim(0, "plus", i(1), i(2)), prim(1, "negate", n(0)))
        self.computed(("prim", "print", (("string", "a"),)), prim(0, "print", s("a")))
        self.computed(("tuple", (plus, ONE, plus)), prim(0, "plus", i(1), i(2)), prim(1, "plus", i(1), i(2)), bind(2, "tuple", (n(0), i(1), n(1))))
        self.computed(("part", 1, ("tuple", (ONE, TWO))), bind(0, "tuple", (i(1), i(2))), bind(1, "part", 1, n(0)))
        self.computed(("con", "t.1", (), 1, plus), prim(0, "plus", i(1), i(2)), bind(1, "make", 1, n(0)))
        self.computed(("con", "t.1", (), 1, ONE), bind(0, "make", 1, i(1)))
        for z, k in (("Overflow", 0), ("Div", 1), ("Size", 2), ("Subscript", 3)):
            self.computed(("pack", z, None), bind(0, "pack", i(k), None))
        self.computed(("apply", plus, plus), prim(0, "plus", i(1), i(2)), prim(1, "plus", i(1), i(2)), call(2, n(0), n(1)))

    def test_functions(self):
        self.computed(("fn", "y.1", INT, var("y.1")), fix((0, 1, give(n(1)))))
        self.computed(("apply", ("fn", "y.1", INT, ("prim", "plus", (var("y.1"), ONE))), TWO),
                      fix((0, 1, give(n(2), prim(2, "plus", n(1), i(1))))), call(3, n(0), i(2)))
        group = ("fix", (("f.1", (), fun(INT, INT), "a.2", INT, ("apply", var("g.3"), var("a.2"))), ("g.3", (), fun(INT, INT), "b.4", INT, ONE)))
        self.computed(block(group, var("f.1")), fix((0, 2, give(n(3), call(3, n(1), n(2)))), (1, 4, give(i(1)))), atom=n(0))
        self.assertEqual(within(("fn", "y.1", INT, ONE)), give(n(2), fix((2, 3, give(i(1))))))

    def test_blocks(self):
        e = block(let("a.1", INT, ("prim", "plus", (ONE, ONE))), let("b.2", INT, var("a.1")), let("c.3", INT, ONE),
                  ("tuple", (var("a.1"), var("b.2"), var("c.3"))))
        self.computed(e, prim(0, "plus", i(1), i(1)), bind(1, "tuple", (n(0), n(0), i(1))))
        self.computed(("part", 0, e), prim(0, "plus", i(1), i(1)), bind(1, "tuple", (n(0), n(0), i(1))), bind(2, "part", 0, n(1)))
        self.assertEqual(within(block(let("a.1", INT, ("prim", "plus", (ONE, ONE))), ("raise", INT, ("pack", "Div", None)))),
                         throw(n(3), prim(2, "plus", i(1), i(1)), bind(3, "pack", i(1), None)))

    def test_selections(self):
        subject = let("s.1", T, ("con", "t.1", (), 1, ONE))
        switch = ("switch", "s.1", ((0, None, ONE), (1, "y.2", var("y.2"))), None)
        self.computed(block(subject, switch), bind(0, "make", 1, i(1)),
                      ("sub", 1, select("switch", n(0), ((0, give(i(1))), (1, give(n(2), bind(2, "arg", n(0))))), None)))
        self.computed(block(subject, ("switch", "s.1", ((1, None, ONE),), TWO)), bind(0, "make", 1, i(1)),
                      ("sub", 1, select("switch", n(0), ((1, give(i(1))),), give(i(2)))))
        self.assertEqual(within(block(subject, switch)), select(
            "switch", n(2), ((0, give(i(1))), (1, give(n(3), bind(3, "arg", n(2))))), None, bind(2, "make", 1, i(1))))
        choose = ("choose", "s.1", ((1, ONE), (5, TWO)), ("int", 3))
        self.computed(block(let("s.1", INT, ONE), choose), ("sub", 0, select("choose", i(1), ((1, give(i(1))), (5, give(i(2)))), give(i(3)))))
        unpack = ("unpack", "s.1", (("Div", None, ONE), ("E.2", "y.3", var("y.3"))), TWO)
        self.computed(block(("exception", "E.2", INT), let("s.1", EXN, ("pack", "E.2", ONE)), unpack),
                      bind(0, "fresh", 0), bind(1, "pack", n(0), i(1)),
                      ("sub", 2, select("unpack", n(1), ((i(1), give(i(1))), (n(0), give(n(3), bind(3, "arg", n(1))))), give(i(2)))))

    def test_raise_and_handle(self):
        error = ("raise", INT, ("pack", "Div", None))
        self.computed(error, ("sub", 1, throw(n(0), bind(0, "pack", i(1), None))))
        self.assertEqual(within(error), throw(n(2), bind(2, "pack", i(1), None)))
        self.computed(("handle", error, "h.1", ("raise", INT, var("h.1"))),
                      ("guard", 0, throw(n(1), bind(1, "pack", i(1), None)), 2, throw(n(2))))
        self.assertEqual(within(("handle", ONE, "h.1", TWO)), give(n(2), ("guard", 2, give(i(1)), 3, give(i(2)))))
        self.computed(("tuple", (error, ONE)), ("sub", 1, throw(n(0), bind(0, "pack", i(1), None))), bind(2, "tuple", (n(1), i(1))))

    def test_exceptions_are_numbered_in_the_text(self):
        core = program(
            ("exception", "A.1", INT), let("x.2", INT, ("tuple", (
                block(("exception", "B.3", None), ("pack", "B.3", None)), ("fn", "y.4", INT, block(("exception", "C.5", UNIT), ONE)),
                block(let("s.6", INT, ONE), ("choose", "s.6", ((1, block(("exception", "D.7", None), ONE)),), block(("exception", "E.8", None), ONE)))))),
            ("exception", "A.9", None))
        whole, info = normalize(core)
        self.assertEqual(info, ((), DATA, (("A", INT), ("B", None), ("C", UNIT), ("D", None), ("E", None), ("A", None))))
        found = []
        work = [whole]
        while work:
            part = work.pop()
            if isinstance(part, tuple):
                if part[:1] == ("fresh",):
                    found.append(part[1])
                work.extend(reversed(part))
        self.assertEqual(found, list(range(6)))

    def test_shown(self):
        core = program(let("x.1", INT, ONE), let("y.2", INT, ("prim", "plus", (ONE, ONE))), show=(shown("y", "y.2", INT), shown("x", "x.1", INT)))
        self.assertEqual(normalize(core), (give(n(1), prim(0, "plus", i(1), i(1)), bind(1, "tuple", (n(0), i(1)))), (core[2], DATA, ())))
        self.assertEqual(normalize(program(let("x.1", INT, ONE))), (give(NO), ((), DATA, ())))
        self.assertEqual(normalize(program()), (give(NO), ((), DATA, ())))

    def test_all_programs(self):
        units = [normalize(elaborate(parse(text))) for text in PROGRAMS]
        for seed in range(60):
            writer = Writer(random.Random(seed))
            tree = writer.program(4, 3)
            try:
                check(tree)
            except CheckError:
                continue
            units.append(normalize(elaborate(tree)))
        for whole, _ in units:
            self.assertIs(is_closed(whole), True)
            self.assertEqual(renumber(whole), whole)

    def test_deep_programs(self):
        text = "1"
        for k in range(5):
            text = f"case [[{k}]] of [[{k}]] => 2 | [[_, _], _] => 3 | _ => {text}"
        whole = normalize(elaborate(parse(f"val x = {text}")))[0]
        self.assertTrue(is_closed(whole))
        e = ONE
        for k in range(300):
            e = ("handle", ("raise", INT, ("pack", "Div", None)), f"h.{k + 1}", e)
        self.assertEqual(measure(translated(e))[1], 301)


class Closed(unittest.TestCase):
    def closed(self, *blocks):
        for whole in blocks:
            self.assertIs(is_closed(whole), True, whole)

    def open(self, *blocks):
        for whole in blocks:
            self.assertIs(is_closed(whole), False, whole)

    def test_each_kind(self):
        self.closed(*[whole for whole, _ in BLOCKS.values()])

    def test_names_that_are_not_bound(self):
        one = n(0)
        self.open(give(one), throw(one), give(NO, prim(1, "negate", one)), give(NO, call(1, one, NO)), give(NO, call(1, NO, one)),
                  give(NO, bind(1, "tuple", (NO, one))), give(NO, bind(1, "part", 0, one)), give(NO, bind(1, "make", 0, one)),
                  give(NO, bind(1, "pack", one, None)), give(NO, bind(1, "pack", i(1), one)), give(NO, bind(1, "arg", one)),
                  select("switch", one, (), give(NO)), select("choose", one, (), give(NO)), select("unpack", one, (), give(NO)),
                  select("unpack", n(1), ((one, give(NO)),), give(NO), bind(1, "pack", i(1), None)),
                  select("switch", NO, ((0, give(one)),), None), select("switch", NO, (), give(one)))

    def test_names_that_are_used_before_they_are_bound(self):
        self.open(give(NO, prim(0, "negate", n(1)), prim(1, "negate", i(1))), give(NO, prim(0, "negate", n(0))),
                  give(NO, ("sub", 0, give(n(0)))), give(NO, ("sub", 0, give(n(1))), prim(1, "negate", i(1))),
                  give(NO, ("guard", 0, give(n(0)), 1, give(NO))), give(NO, ("guard", 0, give(NO), 1, give(n(0)))),
                  give(NO, fix((0, 1, give(n(2)))), prim(2, "negate", i(1))), give(NO, call(0, n(1), NO), fix((1, 2, give(NO)))))

    def test_names_outside_of_their_block(self):
        inner = give(n(0), prim(0, "negate", i(1)))
        self.open(give(n(0), ("sub", 1, inner)), give(n(0), ("guard", 1, inner, 2, give(NO))), give(n(0), ("guard", 1, give(NO), 2, inner)),
                  give(n(0), fix((1, 2, inner))), give(n(1), fix((0, 1, give(NO)))), select("switch", NO, ((0, inner), (1, give(n(0)))), None),
                  select("choose", i(1), ((0, inner),), give(n(0))), select("unpack", n(5), ((i(1), inner),), give(n(0)), bind(5, "pack", i(1), None)))
        self.closed(give(n(1), ("sub", 1, inner)), give(n(1), fix((1, 2, inner))))

    def test_guards(self):
        inner = give(n(0), prim(0, "negate", i(1)))
        self.open(give(NO, ("guard", 1, inner, 2, give(n(0)))), give(NO, ("guard", 1, give(n(2)), 2, give(NO))),
                  give(n(2), ("guard", 1, give(NO), 2, give(NO))), give(NO, ("guard", 1, give(n(0)), 2, inner)))
        self.closed(give(n(1), ("guard", 1, inner, 2, throw(n(2)))))

    def test_functions_by_each_other(self):
        self.closed(give(n(0), fix((0, 1, give(n(2))), (2, 3, give(n(0))))), give(n(2), fix((0, 1, give(n(0))), (2, 3, give(n(2))))))
        self.open(give(NO, fix((0, 1, give(n(3))), (2, 3, give(NO)))), give(NO, fix((0, 1, give(NO)), (2, 3, give(n(1))))))

    def test_names_bound_twice(self):
        a, b = prim(0, "negate", i(1)), prim(0, "negate", i(2))
        inner = give(NO, b)
        self.open(give(NO, a, b), give(NO, a, ("sub", 1, inner)), give(NO, ("sub", 0, inner)), give(NO, ("sub", 1, inner), a),
                  give(NO, ("sub", 1, inner), ("sub", 2, inner)), give(NO, ("guard", 1, inner, 2, inner)), give(NO, ("guard", 1, give(NO), 1, give(NO))),
                  give(NO, ("guard", 1, give(NO), 0, inner)), give(NO, fix((0, 0, give(NO)))), give(NO, fix((0, 1, give(NO)), (0, 2, give(NO)))),
                  give(NO, fix((0, 1, give(NO)), (2, 1, give(NO)))), give(NO, fix((0, 1, give(NO))), fix((2, 1, give(NO)))), give(NO, fix((3, 1, inner)), a),
                  select("switch", NO, ((0, inner), (1, inner)), None), select("switch", NO, ((0, inner),), inner), select("choose", i(1), ((0, inner),), give(NO), a))


class Sizes(unittest.TestCase):
    def test_measure(self):
        self.assertEqual(measure(give(NO)), (1, 1))
        self.assertEqual(measure(throw(NO)), (1, 1))
        self.assertEqual(measure(give(n(1), prim(0, "negate", i(1)), prim(1, "negate", n(0)))), (3, 1))
        self.assertEqual(measure(give(n(0), ("sub", 0, give(NO)))), (3, 2))
        self.assertEqual(measure(give(n(0), ("guard", 0, give(NO), 1, give(NO, ("sub", 2, give(NO)))))), (6, 3))
        self.assertEqual(measure(give(NO, fix((0, 1, give(NO)), (2, 3, give(NO))))), (4, 2))
        for kind in ("switch", "choose", "unpack"):
            self.assertEqual(measure(select(kind, n(9), ((i(0), give(NO)), (i(1), give(NO))), give(NO, ("sub", 0, give(NO))))), (6, 3))
        self.assertEqual(measure(select("switch", NO, ((0, give(NO)),), None)), (2, 2))

    def test_deep(self):
        whole = give(NO)
        for k in range(3000):
            whole = give(n(k), ("sub", k, whole))
        self.assertEqual(measure(whole), (6001, 3001))
        self.assertTrue(is_closed(whole))
        self.assertEqual(renumber(whole)[1], ("give", n(0)))


class Numbers(unittest.TestCase):
    def test_order(self):
        whole = give(
            n(50), prim(9, "negate", i(1)), ("sub", 8, give(n(7), prim(7, "negate", n(9)))),
            ("guard", 60, give(n(59), prim(59, "negate", n(8))), 58, give(n(57), bind(57, "tuple", (n(58), n(9))))),
            fix((40, 39, give(n(38), call(38, n(41), n(39)))), (41, 37, select("switch", n(37), ((0, give(n(36), bind(36, "arg", n(37)))),), give(n(40))))),
            ("sub", 50, select("unpack", n(60), ((n(9), give(n(35), call(35, n(40), n(41)))), (i(1), give(n(60)))), give(n(34), bind(34, "pack", n(9), n(8))))))
        wanted = give(
            n(14), prim(0, "negate", i(1)), ("sub", 1, give(n(2), prim(2, "negate", n(0)))),
            ("guard", 3, give(n(4), prim(4, "negate", n(1))), 5, give(n(6), bind(6, "tuple", (n(5), n(0))))),
            fix((7, 9, give(n(10), call(10, n(8), n(9)))), (8, 11, select("switch", n(11), ((0, give(n(12), bind(12, "arg", n(11)))),), give(n(7))))),
            ("sub", 13, select("unpack", n(3), ((n(0), give(n(14), call(14, n(7), n(8)))), (i(1), give(n(3)))), give(n(15), bind(15, "pack", n(0), n(1))))))
        wanted = (wanted[0], ("give", n(13)))
        self.assertEqual(renumber(whole), wanted)
        self.assertEqual(renumber(wanted), wanted)

    def test_atoms_that_are_no_names_stay(self):
        whole = give(i(7), bind(5, "tuple", (i(5), s("5"), ("tag", 5))), prim(2, "plus", i(5), i(2)))
        self.assertEqual(renumber(whole), give(i(7), bind(0, "tuple", (i(5), s("5"), ("tag", 5))), prim(1, "plus", i(5), i(2))))


if __name__ == "__main__":
    unittest.main()
