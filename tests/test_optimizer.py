"""Places that can be reduced, and optimization (points 106 and 107)."""

import random
import unittest

from cores import INT
from guanaco.checker import check
from guanaco.elaborate import elaborate
from guanaco.errors import CheckError
from guanaco.normal import is_closed, measure, normalize, renumber
from guanaco.optimizer import optimize, reducible
from guanaco.parser import parse
from guanaco.running import run_normal
from programs import Writer
from random_units import Maker
from running import agree
from test_elaborate import PROGRAMS
from units import BLOCKS, NO, bind, call, fix, give, i, n, of, prim, s, select, throw

MADE = prim(90, "ref", i(1))
PLACES = (
    # 1
    give(NO, bind(0, "tuple", (i(1),))), give(NO, bind(0, "make", 1, i(1))), give(NO, bind(0, "fresh", 0)),
    give(NO, bind(0, "pack", i(1), None)), give(NO, bind(0, "pack", i(1), i(2))), give(NO, MADE, bind(0, "part", 0, n(90))),
    give(NO, MADE, bind(0, "arg", n(90))), give(NO, MADE, prim(0, "less", n(90), i(1))), give(NO, MADE, prim(0, "equal", n(90), i(1))),
    give(NO, MADE, prim(0, "unequal", n(90), i(1))), give(NO, MADE, prim(0, "atmost", n(90), i(1))), give(NO, MADE, prim(0, "greater", n(90), i(1))),
    give(NO, MADE, prim(0, "atleast", n(90), i(1))), give(NO, MADE, prim(0, "same", n(90), s(""))), give(NO, prim(0, "size", s(""))),
    give(NO, prim(0, "digits", i(1))),
    # 2
    give(NO, fix((0, 1, give(n(1))))), give(NO, fix((0, 1, give(n(2), call(2, n(0), n(1)))))),
    give(NO, fix((0, 1, give(n(2))), (2, 3, give(n(0))))),
    # 3
    give(n(1), bind(0, "tuple", (i(1), i(2))), bind(1, "part", 1, n(0))), give(n(1), bind(0, "make", 1, i(2)), bind(1, "arg", n(0))),
    give(n(1), bind(0, "pack", i(1), i(2)), bind(1, "arg", n(0))),
    # 4
    select("switch", NO, ((0, give(i(1))),), None), select("switch", ("tag", 5), ((0, give(i(1))),), give(i(2))),
    select("switch", n(0), ((0, give(i(1))),), give(n(0)), bind(0, "make", 1, i(1))), select("choose", i(1), ((1, give(i(2))),), give(i(3))),
    select("choose", s("a"), (), give(i(3))),
    # 5
    select("switch", n(90), ((0, select("switch", n(90), ((0, give(i(1))),), None)), (1, give(i(2)))), None, MADE),
    select("switch", n(90), ((0, give(i(1))), (1, give(n(1), ("sub", 1, select("switch", n(90), ((0, give(i(1))),), give(i(3))))))), None, MADE),
    select("switch", n(90), ((0, give(n(1), fix((1, 2, select("switch", n(90), (), give(n(2))))))),), give(i(1)), MADE),
    # 6
    give(n(0), ("sub", 0, give(i(1)))), give(n(0), ("sub", 0, give(n(90), MADE))), give(n(0), ("sub", 0, throw(n(1), bind(1, "pack", i(1), None)))),
    # 7
    give(n(0), ("guard", 0, give(i(1)), 1, give(n(1)))), give(n(0), bind(2, "pack", i(1), None), ("guard", 0, throw(n(2)), 1, throw(n(1)))),
    # 8
    give(n(0), prim(0, "plus", i(1), i(2))), give(n(0), prim(0, "minus", i(1), i(2))), give(n(0), prim(0, "times", i(1), i(2))),
    give(n(0), prim(0, "negate", i(1))), give(n(0), prim(0, "quotient", i(7), i(2))), give(n(0), prim(0, "remainder", i(7), i(2))),
    give(n(0), prim(0, "equal", i(1), i(2))), give(n(0), prim(0, "unequal", i(1), i(2))), give(n(0), prim(0, "less", i(1), i(2))),
    give(n(0), prim(0, "atmost", i(1), i(2))), give(n(0), prim(0, "greater", i(1), i(2))), give(n(0), prim(0, "atleast", i(1), i(2))),
    # 9
    give(n(2), fix((0, 1, give(n(1)))), call(2, n(0), i(3))), give(n(2), fix((0, 1, throw(n(1)))), bind(5, "pack", i(1), None), call(2, n(0), n(5))),
    give(n(2), fix((0, 1, give(n(4), prim(4, "print", n(1))))), fix((2, 3, give(n(5), call(5, n(0), n(3)))))),
)
OTHERS = (
    give(NO), give(n(0), bind(0, "tuple", (i(1),))), give(NO, MADE), give(NO, prim(0, "print", s("a"))), give(NO, MADE, prim(0, "get", n(90))),
    give(NO, MADE, prim(0, "plus", n(90), i(1))), give(NO, MADE, prim(0, "code", n(90), i(1))), give(NO, prim(0, "concat", s("a"), s("b"))),
    give(NO, MADE, call(0, n(90), i(1))), give(n(0), fix((0, 1, give(n(1))))), give(n(2), fix((0, 1, give(n(1))), (2, 3, give(n(0))))),
    give(n(0), MADE, bind(0, "part", 0, n(90))), give(n(1), bind(0, "pack", i(1), None), bind(1, "arg", n(0))), give(n(1), MADE, bind(1, "arg", n(90))),
    give(n(1), bind(0, "make", 1, i(1)), bind(1, "part", 0, n(0))), give(n(1), bind(0, "tuple", (i(1),)), bind(1, "arg", n(0))),
    select("switch", n(90), ((0, give(i(1))),), give(i(2)), MADE), select("choose", n(90), ((0, give(i(1))),), give(i(2)), MADE),
    select("unpack", n(0), ((i(1), give(i(1))),), give(i(2)), bind(0, "pack", i(1), None)),
    select("switch", n(0), ((0, give(i(1))),), give(i(2)), bind(0, "tuple", (i(1),))),
    select("switch", n(90), ((0, give(i(1))),), select("switch", n(90), ((1, give(i(1))),), give(i(2))), MADE),
    select("switch", n(90), ((0, select("switch", n(91), ((0, give(i(1))),), None)),), give(i(2)), MADE, prim(91, "ref", i(1))),
    select("choose", n(90), ((0, select("choose", n(90), ((0, give(i(1))),), give(i(2)))),), give(i(2)), MADE),
    give(n(0), MADE, ("sub", 0, select("switch", n(90), (), give(i(1))))),
    give(n(0), ("guard", 0, give(n(90), MADE), 1, give(n(1)))), give(n(0), ("guard", 0, throw(n(2), bind(2, "pack", i(1), None)), 1, give(n(1)))),
    give(n(0), MADE, ("guard", 0, select("switch", n(90), (), give(i(1))), 1, give(n(1)))),
    give(n(0), prim(0, "plus", i(2000000000), i(1))), give(n(0), prim(0, "quotient", i(1), i(0))), give(n(0), prim(0, "remainder", i(1), i(0))),
    give(n(0), prim(0, "minus", i(-2000000000), i(1))), give(n(0), prim(0, "times", i(2000000000), i(2))), give(n(0), MADE, prim(0, "plus", i(1), n(90))),
    give(n(0), prim(0, "same", s("a"), s("a"))), give(n(0), prim(0, "size", s("a"))), give(n(0), prim(0, "digits", i(1))), give(n(0), MADE, prim(0, "less", n(90), n(90))),
    give(n(2), fix((0, 1, give(n(1)))), call(2, n(0), n(0))), give(n(3), fix((0, 1, give(n(1)))), call(2, n(0), i(1)), call(3, n(0), i(2))),
    give(n(2), MADE, fix((0, 1, give(n(1)))), call(2, n(90), n(0))), give(n(2), fix((0, 1, give(n(4), call(4, n(0), n(1))))), call(2, n(0), i(1))),
    give(n(2), fix((0, 1, give(n(4), ("sub", 4, select("switch", n(1), (), give(i(1))))))), call(2, n(0), i(1))),
    give(n(2), fix((0, 1, select("switch", n(1), (), give(i(1))))), call(2, n(0), i(1))),
    give(n(2), fix((0, 1, give(n(4), fix((4, 5, give(n(5))))))), call(2, n(0), i(1))),
    give(n(2), fix((0, 1, give(n(1))), (3, 4, give(n(3)))), call(2, n(0), i(1))),
)
# Ways to put a block within another one that is not reducible. The names are not those of the block.
AROUND = (
    lambda block: block,
    lambda block: give(n(200), ("guard", 200, give(n(201), prim(201, "ref", i(1))), 202, block)),
    lambda block: give(n(203), prim(200, "ref", i(1)), ("sub", 203, select("switch", n(200), ((0, block), (1, give(i(1)))), None))),
    lambda block: select("switch", n(200), ((1, block),), give(i(1)), prim(200, "ref", i(1))),
    lambda block: select("switch", n(200), ((1, give(i(1))),), block, prim(200, "ref", i(1))),
    lambda block: select("choose", n(200), ((1, block),), give(i(1)), prim(200, "ref", i(1))),
    lambda block: select("unpack", n(200), ((i(1), block),), give(i(1)), prim(200, "ref", i(1))),
    lambda block: give(n(200), fix((200, 201, block))),
)


class Reducible(unittest.TestCase):
    def test_places(self):
        for block in PLACES:
            self.assertTrue(is_closed(block), block)
            for k, around in enumerate(AROUND):
                self.assertTrue(is_closed(around(block)))
                self.assertIs(reducible(around(block)), True, (k, block))

    def test_no_places(self):
        for block in OTHERS:
            self.assertTrue(is_closed(block), block)
            for k, around in enumerate(AROUND):
                self.assertTrue(is_closed(around(block)))
                self.assertIs(reducible(around(block)), False, (k, block))


class Optimized(unittest.TestCase):
    def optimized(self, unit, fuels=(0, 1, 2, 3, 5, 10, 100, 3000)):
        """Tests all that point 107 says of the optimized unit, and returns its block."""
        block, info = optimize(unit)
        self.assertEqual(info, unit[1])
        self.assertTrue(is_closed(block))
        self.assertIs(reducible(block), False)
        self.assertEqual(renumber(block), block)
        before, after = measure(unit[0]), measure(block)
        self.assertLessEqual(after[0], before[0])
        self.assertLessEqual(after[1], before[1])
        for fuel in fuels:
            wanted, found = run_normal(unit, fuel), run_normal((block, info), fuel)
            self.assertTrue(agree(wanted, found), (fuel, wanted, found))
            if wanted[1] != ("more",):
                self.assertNotEqual(found[1], ("more",))
                if found[1] == ("full",):
                    self.assertEqual(wanted[1], ("full",))
        return block

    def becomes(self, block, wanted):
        self.assertEqual(optimize((block, ((), (), ())))[0], wanted)

    def test_places(self):
        for block in PLACES:
            for around in AROUND:
                found = optimize((around(block), ((), (), ())))[0]
                self.assertTrue(is_closed(found), block)
                self.assertIs(reducible(found), False, block)
                self.assertEqual(renumber(found), found)
                self.assertLess(measure(found)[0], measure(around(block))[0])
                self.assertLessEqual(measure(found)[1], measure(around(block))[1])
        for block in OTHERS:
            self.becomes(block, renumber(block))

    def test_what_they_become(self):
        self.becomes(give(n(2), prim(0, "plus", i(1), i(2)), prim(1, "times", n(0), n(0)), prim(2, "less", n(1), i(10))), give(("tag", 1)))
        self.becomes(give(n(3), MADE, bind(0, "tuple", (n(90), i(2))), bind(1, "part", 0, n(0)), bind(2, "make", 1, n(1)), bind(3, "arg", n(2))),
                     give(n(0), prim(0, "ref", i(1))))
        self.becomes(give(n(3), fix((0, 1, give(n(2), prim(2, "print", n(1))))), call(3, n(0), s("a"))), give(n(0), prim(0, "print", s("a"))))
        self.becomes(give(n(3), ("sub", 3, throw(n(0), bind(0, "pack", i(1), None))), prim(4, "print", s("a"))), throw(n(0), bind(0, "pack", i(1), None)))
        self.becomes(give(n(3), bind(0, "pack", i(1), None), ("guard", 3, throw(n(0)), 4, give(n(5), bind(5, "tuple", (n(4),))))),
                     give(n(1), bind(0, "pack", i(1), None), bind(1, "tuple", (n(0),))))
        self.becomes(select("choose", i(3), ((1, give(i(1))),), select("switch", ("tag", 2), ((2, give(i(7))),), None)), give(i(7)))
        inner = select("switch", n(90), ((0, give(i(5))), (1, give(i(6)))), None)
        self.becomes(select("switch", n(90), ((0, give(i(4))), (1, inner)), None, MADE), select("switch", n(0), ((0, give(i(4))), (1, give(i(6)))), None, prim(0, "ref", i(1))))

    def test_a_throw_within_a_function_within_another_one(self):
        inner, outer = fix((0, 1, throw(n(1)))), fix((2, 3, give(n(5), call(4, n(0), n(3)), prim(5, "print", s("b")))))
        block = give(n(7), prim(8, "print", s("a")), bind(9, "pack", i(1), None), inner, outer, call(7, n(2), n(9)), prim(10, "print", s("c")))
        self.optimized(of(block))
        self.becomes(block, throw(n(1), prim(0, "print", s("a")), bind(1, "pack", i(1), None)))
        bad = fix((2, 3, throw(n(5), call(4, n(0), n(3)), bind(5, "pack", i(2), None))))
        self.optimized(of(give(n(7), bind(9, "pack", i(1), None), inner, bad, call(7, n(2), n(9)))))

    def test_what_is_never_done(self):
        """A place that would be stuck may stand where no run comes."""
        for dead in (select("switch", ("tag", 5), ((0, give(i(1))),), None), give(n(1), bind(0, "tuple", (i(1),)), bind(1, "part", 3, n(0))),
                     select("switch", n(0), ((7, give(i(1))),), None, bind(0, "make", 1, i(1)))):
            block = give(n(81), prim(80, "negate", i(1)), prim(82, "ref", n(80)), prim(83, "get", n(82)),
                         ("sub", 81, select("choose", n(83), ((7, dead),), give(i(1)))))
            self.optimized(of(block))

    def test_an_integer_is_no_function(self):
        """It is applied where no run comes, and is the number of the name of a function."""
        dead = give(n(1), call(1, i(50), i(2)))
        block = give(n(81), fix((50, 51, give(n(51)))), call(52, n(50), i(3)), prim(82, "ref", n(52)), prim(83, "get", n(82)),
                     ("sub", 81, select("choose", n(83), ((7, dead),), give(n(83)))))
        self.optimized(of(block))

    def test_what_is_not_needed(self):
        """What is used only in vain is not needed, either."""
        chain = [bind(1, "tuple", (i(1),))] + [bind(k, "tuple", (n(k - 1),)) for k in range(2, 40)]
        self.becomes(give(NO, *chain), give(NO))
        used = fix((50, 51, give(n(53), bind(52, "tuple", (n(1),)), call(53, n(51), n(52)))))
        self.becomes(give(NO, *chain, used, fix((54, 55, give(n(56), call(56, n(50), n(39)))))), give(NO))
        kept = give(n(54), *chain, used, fix((54, 55, give(n(57), call(56, n(50), n(39)), call(57, n(50), n(50))))))
        self.assertEqual(measure(optimize((kept, ((), (), ())))[0]), measure(kept))

    def test_blocks(self):
        for block, ty in BLOCKS.values():
            self.optimized(of(block, ty))

    def test_names_may_have_any_numbers(self):
        block = give(n(1000000), prim(7, "ref", i(3)), prim(0, "get", n(7)), bind(1000000, "tuple", (n(0), n(7))))
        self.becomes(block, give(n(2), prim(0, "ref", i(3)), prim(1, "get", n(0)), bind(2, "tuple", (n(1), n(0)))))

    def test_programs(self):
        for text in PROGRAMS:
            with self.subTest(text):
                self.optimized(normalize(elaborate(parse(text))))

    def test_random_programs(self):
        for seed in range(900, 1000):
            writer = Writer(random.Random(seed))
            tree = writer.program(writer.random.randint(1, 6), writer.random.randint(1, 4))
            try:
                check(tree)
            except CheckError:
                continue
            with self.subTest(seed):
                unit = normalize(elaborate(tree))
                self.optimized(unit, (0, 2, 9, 40, 20000))
                self.assertEqual(optimize(optimize(unit)), optimize(unit))

    def test_random_units(self):
        for seed in range(200):
            unit = Maker(random.Random(seed)).unit()
            with self.subTest(seed):
                self.assertTrue(is_closed(unit[0]))
                block = self.optimized(unit, (0, 1, 2, 4, 9, 30, 2000))
                self.assertNotEqual(run_normal(unit, 2000)[1], ("stuck",))
                if reducible(unit[0]):
                    self.assertLess(measure(block)[0], measure(unit[0])[0])
                else:
                    self.assertEqual(block, renumber(unit[0]))

    def test_other_names(self):
        """The numbers of the names do not matter."""
        for text in PROGRAMS[:30]:
            block, info = normalize(elaborate(parse(text)))
            self.assertEqual(optimize((shifted(block), info)), optimize((block, info)))


def shifted(tree):
    """The block with names three times as large, plus 5."""
    if not isinstance(tree, tuple) or not tree:
        return tree
    if tree[0] == "name":
        return ("name", 3 * tree[1] + 5)
    if tree[0] in ("bind", "sub"):
        return (tree[0], 3 * tree[1] + 5, shifted(tree[2]))
    if tree[0] == "guard":
        return ("guard", 3 * tree[1] + 5, shifted(tree[2]), 3 * tree[3] + 5, shifted(tree[4]))
    if tree[0] == "fix":
        return ("fix", tuple((3 * f + 5, 3 * p + 5, shifted(block)) for f, p, block in tree[1]))
    return tuple(shifted(part) for part in tree)


if __name__ == "__main__":
    unittest.main()
