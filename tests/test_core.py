"""The form of core programs (points 80 to 83 and 85), and their size."""

import random
import unittest

from cores import A, DATA, INT, ONE, START, TYPED, T, fun, let, of, program, shown, var
from guanaco.core import is_formed, measure_core

BIG = 2000000000


class Formed(unittest.TestCase):
    def formed(self, *cores):
        for core in cores:
            self.assertIs(is_formed(core), True, core)

    def unformed(self, *cores):
        for core in cores:
            self.assertIs(is_formed(core), False, core)

    def bad(self, *expressions):
        self.unformed(*[of(e) for e in expressions])

    def good(self, *expressions):
        self.formed(*[of(e) for e in expressions])

    def test_each_form(self):
        for e, ty in TYPED.values():
            self.formed(of(e, ty))
        self.formed(program(), program(data=START), program(("exception", "E.1", None), ("exception", "F.2", INT)))

    def test_tuples_of_other_lengths_and_kinds(self):
        for e, ty in TYPED.values():
            if e[0] == "block":
                e = e[2]
            self.bad(e + (ONE,), e[:-1], ("other",) + e[1:], (1,) + e[1:], list(e))
        self.bad((), None, 1, True, "int", ("int",), ((),), (None,))
        self.unformed((), None, 1, "core", (DATA, ()), (DATA, (), (), ()), (None, (), ()), (DATA, None, ()), (DATA, (), 1))
        self.unformed(program(()), program(None), program(("let",)), program(("val", "x.1", (), INT, ONE)))

    def test_integers_are_no_booleans(self):
        self.bad(("int", True), ("int", "1"), ("int", None), ("string", 1), ("string", None),
                 ("part", True, ("tuple", ())), ("con", "t.1", (), False, None),
                 ("switch", "x.0", ((True, None, ONE),), ONE), ("choose", "x.0", ((True, ONE),), ONE))

    def test_ranges(self):
        self.good(("int", BIG), ("int", -BIG), ("string", "x" * 200), ("part", 5, ONE), ("part", 0, ONE))
        self.bad(("int", BIG + 1), ("int", -BIG - 1), ("string", "x" * 201), ("part", 6, ONE), ("part", -1, ONE))
        self.good(("choose", "x.0", ((BIG, ONE),), ONE), ("choose", "x.0", (("x" * 200, ONE),), ONE))
        self.bad(("choose", "x.0", ((BIG + 1, ONE),), ONE), ("choose", "x.0", (("x" * 201, ONE),), ONE))
        self.good(("con", "t.1", (), 9, None), ("con", "int", (), 0, None), ("con", "ref", (INT,), 0, None))
        self.bad(("con", "t.1", (), -1, None))

    def test_variables(self):
        self.bad(("fn", "x", INT, ONE), ("fn", "", INT, ONE), ("fn", 1, INT, ONE), ("fn", None, INT, ONE))
        self.good(("fn", ".1", INT, ONE), ("fn", "x.1", INT, ONE), var("nowhere"), var("y.9", INT))
        self.bad(("block", (let("y", INT, ONE),), ONE), ("block", (("exception", "E", None),), ONE),
                 ("handle", ONE, "h", ONE), ("switch", "x.0", ((0, "y", ONE),), ONE),
                 ("unpack", "x.0", (("Div", "y", ONE),), ONE),
                 ("block", (("fix", (("f", (), INT, "n.1", INT, ONE),)),), ONE),
                 ("block", (("fix", (("f.1", (), INT, "n", INT, ONE),)),), ONE))

    def test_no_variable_twice(self):
        binders = (
            lambda x: ("fn", x, INT, ONE), lambda x: ("block", (let(x, INT, ONE),), ONE),
            lambda x: ("block", (("exception", x, None),), ONE), lambda x: ("handle", ONE, x, ONE),
            lambda x: ("switch", "s", ((0, x, ONE),), ONE), lambda x: ("unpack", "s", (("Div", x, ONE),), ONE),
            lambda x: ("block", (("fix", ((x, (), INT, "n.7", INT, ONE),)),), ONE),
            lambda x: ("block", (("fix", (("f.8", (), INT, x, INT, ONE),)),), ONE),
        )
        for first in binders:
            self.good(first("x.1"))
            self.bad(first("x.0"))
            for second in binders:
                if first("x.1") != second("x.1"):
                    self.bad(("tuple", (first("x.1"), second("x.1"))))
        self.unformed(program(let("x.1", INT, ONE), let("x.1", INT, ONE)))

    def test_data(self):
        entry = ("u.3", ("a",), (("U", A),))
        self.formed(program(data=DATA + (entry,)))
        for wrong in (
                ("u.3", ("a",)), ("u.3", "a", (("U", A),)), ("u.3", ("a",), ()), ("u.3", ("a", "a"), (("U", A),)),
                ("u.3", ("a",), (("U", A), ("U", None))), ("u.3", (), (("U", A),)), ("u.3", (1,), (("U", None),)),
                ("u.3", (), (("U", ("con", "v.4", ())),)), ("u.3", (), (("U",),)), ("u.3", (), (("U", INT, INT),)),
                ("u.3", (), (1,)), (3, (), (("U", None),)), ("u.3", (), ((1, None),)),
                ("int", (), (("U", None),)), ("string", (), (("U", None),)), ("exn", (), (("U", None),)),
                ("ref", ("a",), (("U", None),)), ("t.1", (), (("U", None),)), ("bool", (), (("U", None),)), None):
            self.unformed(program(data=DATA + (wrong,)))
        self.unformed(program(data=()), program(data=START[:1]), program(data=START[1:] + START[:1]),
                      program(data=DATA[2:] + START), program(data=START[:1] + DATA[2:]))
        other = (START[0], ("list", ("b",), START[1][2]))
        self.unformed(program(data=other))

    def test_types(self):
        for ty in (A, fun(INT, A), ("tuple", ()), ("tuple", (INT,) * 6), ("con", "ref", (INT,)), ("con", "list", (A,)),
                   ("con", "box.2", (A, T)), ("con", "exn", ()), ("con", "string", ())):
            self.good(("fn", "y.1", ty, ONE), ("fn", "y.1", fun(ty, ty), ONE))
        for ty in (("tuple", (INT,)), ("tuple", (INT,) * 7), ("con", "int", (INT,)), ("con", "ref", ()),
                   ("con", "list", (A, A)), ("con", "u.9", ()), ("con", "box.2", (INT,)), ("var", 1), ("fun", INT),
                   ("fun", INT, INT, INT), ("con", "int"), ("tyvar", "a"), ("con", 1, ()), (), None, 1, "int",
                   ("tuple", None), ("con", "int", None), ("var", "a", "b")):
            self.bad(("fn", "y.1", ty, ONE), ("fn", "y.1", fun(ty, INT), ONE), ("raise", ty, ONE), var("y.9", ty),
                     ("con", "list", (ty,), 0, None), ("block", (let("y.1", ty, ONE),), ONE),
                     ("block", (("fix", (("f.1", (), ty, "n.2", INT, ONE),)),), ONE),
                     ("block", (("fix", (("f.1", (), INT, "n.2", ty, ONE),)),), ONE))
            if ty is not None:
                self.bad(("block", (("exception", "E.1", ty),), ONE))

    def test_letters(self):
        self.good(("block", (let("y.1", INT, ONE, ("a", "b")),), ONE))
        self.bad(("block", (let("y.1", INT, ONE, ("a", "a")),), ONE), ("block", (let("y.1", INT, ONE, (1,)),), ONE),
                 ("block", (let("y.1", INT, ONE, "a"),), ONE), ("block", (("exception", "E.1", A),), ONE))
        one, other = ("f.1", ("a",), INT, "n.2", INT, ONE), ("f.3", ("b",), INT, "n.4", INT, ONE)
        self.good(("block", (("fix", (one,)),), ONE), ("block", (("fix", (other,)),), ONE))
        self.bad(("block", (("fix", (one, other)),), ONE), ("block", (("fix", ()),), ONE),
                 ("block", (("fix", (("f.1", ("a", "a"), INT, "n.2", INT, ONE),)),), ONE))

    def test_parts_of_expressions(self):
        self.bad(("tuple", (ONE,)), ("tuple", (ONE,) * 7), ("tuple", ONE), ("con", "u.9", (), 0, None),
                 ("con", "t.1", (INT,), 0, None), ("con", "list", (), 0, None), ("con", 1, (), 0, None))
        self.good(("tuple", (ONE,) * 6))
        self.bad(("var", 1, ()), ("var", None, ()), ("var", "x", None), ("var", "x", INT), ("apply", ONE, INT), ("block", ONE, ONE))
        self.bad(("prim", "plus", (ONE,)), ("prim", "digits", (ONE, ONE)), ("prim", "other", (ONE,)), ("prim", "plus", ()),
                 ("prim", 1, (ONE,)), ("prim", "get", (ONE, ONE)), ("prim", "assign", (ONE,)), ("prim", "print", ()))
        self.bad(("pack", 1, None), ("pack", None, None), ("raise", INT, None), ("apply", ONE, None), ("part", 0, None))
        self.good(("pack", "nowhere", None), ("pack", "E.1", ONE))

    def test_each_part_is_looked_at(self):
        for place in (
                lambda e: ("fn", "y.1", INT, e), lambda e: ("apply", e, ONE), lambda e: ("apply", ONE, e), lambda e: ("block", (), e),
                lambda e: ("block", (let("y.1", INT, e),), ONE), lambda e: ("block", (("fix", (("f.1", (), INT, "n.2", INT, e),)),), ONE),
                lambda e: ("block", (("fix", (("f.3", (), INT, "n.4", INT, ONE), ("f.1", (), INT, "n.2", INT, e))),), ONE),
                lambda e: ("tuple", (ONE, e)), lambda e: ("part", 0, e), lambda e: ("con", "t.1", (), 1, e), lambda e: ("switch", "s", ((0, None, e),), ONE),
                lambda e: ("switch", "s", (), e), lambda e: ("choose", "s", ((0, e),), ONE), lambda e: ("choose", "s", (), e),
                lambda e: ("unpack", "s", (("E", None, e),), ONE), lambda e: ("unpack", "s", (), e), lambda e: ("pack", "E", e),
                lambda e: ("raise", INT, e), lambda e: ("handle", e, "h.1", ONE), lambda e: ("handle", ONE, "h.1", e), lambda e: ("prim", "plus", (ONE, e))):
            self.good(place(ONE))
            self.bad(place(("int", "1")), place(("fn", "x.0", INT, ONE)))

    def test_selections(self):
        self.good(("switch", "s", (), ONE), ("switch", "s", (), None), ("switch", "s", ((3, None, ONE), (7, "y.1", ONE)), None),
                  ("choose", "s", (), ONE), ("unpack", "s", (), ONE))
        self.bad(("switch", "s", ((1, None, ONE), (0, None, ONE)), None), ("switch", "s", ((1, None, ONE), (1, None, ONE)), ONE),
                 ("switch", "s", ((-1, None, ONE),), ONE), ("switch", 1, (), ONE), ("switch", "s", ((0, ONE),), ONE),
                 ("switch", "s", ((0, None, None),), ONE), ("switch", "s", None, ONE),
                 ("choose", "s", ((1, ONE), (1, ONE)), ONE), ("choose", "s", (("a", ONE), ("a", ONE)), ONE),
                 ("choose", "s", ((1, ONE),), None), ("choose", "s", ((None, ONE),), ONE), ("choose", "s", ((1, None, ONE),), ONE),
                 ("choose", "s", (((1,), ONE),), ONE), ("choose", None, (), ONE),
                 ("unpack", "s", (("E", None, ONE), ("E", None, ONE)), ONE), ("unpack", "s", ((1, None, ONE),), ONE),
                 ("unpack", "s", (("E", None, ONE),), None), ("unpack", "s", (("E", ONE),), ONE))

    def test_shown(self):
        entry = ("x", (("a",), fun(A, ("con", "what.7", (A,)))), "x.1", ("q",), ("var", "q"))
        self.formed(program(show=(entry,)), program(show=(entry, entry)))
        for place, wrong in ((0, 1), (0, None), (1, A), (1, ((), A)), (1, (("b",), A)), (1, (("a", "a"), A)), (1, (("a",), ("tuple", (A,)))),
                             (1, (("a",), A, A)), (1, (("a",), None)), (2, 1), (3, ("p",)), (3, ("q", "q")), (3, "q"),
                             (4, ("var", "r")), (4, ("con", "what.7", ())), (4, None)):
            self.unformed(program(show=(entry[:place] + (wrong,) + entry[place + 1:],)))
        self.unformed(program(show=(entry[:4],)), program(show=(entry + (1,),)), program(show=(None,)))

    def test_deep_and_large(self):
        e = ONE
        for _ in range(390):
            e = ("part", 0, e)
        self.good(e)
        self.bad(("tuple", (e, ("part", 0, None))))
        ty = INT
        for _ in range(190):
            ty = ("tuple", (ty, INT))
        self.good(("raise", ty, ONE))
        deep = ()
        for _ in range(390):
            deep = (deep,)
        self.bad(deep, ("tuple", deep))
        self.unformed(deep, (deep, deep, deep), program(data=(deep, deep)), program(data=DATA + (deep,)))

    def test_any_nested_tuple(self):
        """Parts of formed programs are replaced by others: the answer is True or False."""
        chooser = random.Random(5)
        pieces = [None, True, False, 0, -1, 3, "", "x.1", "a", (), ("int", 1), INT, A, ("tuple", (INT, INT)), ONE, "var", "con"]
        answers = []
        for _ in range(4000):
            e, ty = chooser.choice(list(TYPED.values()))
            answers.append(is_formed(replaced(of(e, ty), chooser, pieces)))
        self.assertEqual(set(answers), {True, False})

    def test_measure(self):
        self.assertEqual(measure_core(program()), 0)
        self.assertEqual(measure_core(of(ONE)), 2)
        self.assertEqual(measure_core(of(("tuple", (ONE, ("fn", "y.1", INT, ONE))))), 5)
        self.assertEqual(measure_core(program(("exception", "E.1", INT))), 1)
        for name, count in (("fix", 14), ("unpack", 10), ("switch", 8), ("handle", 7), ("references", 11), ("block", 3)):
            self.assertEqual(measure_core(of(*TYPED[name])), count, name)


def replaced(tree, chooser, pieces):
    """A tree in which one random part is another."""
    if not isinstance(tree, tuple) or not tree or chooser.random() < 0.15:
        return chooser.choice(pieces)
    place = chooser.randrange(len(tree))
    return tree[:place] + (replaced(tree[place], chooser, pieces),) + tree[place + 1:]


if __name__ == "__main__":
    unittest.main()
