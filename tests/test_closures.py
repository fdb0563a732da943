"""Closure conversion (points 108 and 109). Runs of functions are tested beside those of units (point 110)."""

import random
import unittest

from cores import INT
from guanaco.blocks import all_blocks, atoms_within, names_bound
from guanaco.checker import check
from guanaco.closures import convert
from guanaco.elaborate import elaborate
from guanaco.errors import CheckError
from guanaco.normal import normalize
from guanaco.optimizer import optimize
from guanaco.parser import parse
from programs import Writer
from test_elaborate import PROGRAMS
from units import BLOCKS, NO, bind, call, fix, give, i, n, prim, select, throw

INFO = ((), (), ())


def close(x, number, atom):
    return bind(x, "close", number, atom)


def part(x, k, environment):
    return bind(x, "part", k, n(environment))


class Conversion(unittest.TestCase):
    def converts(self, block, *functions):
        self.assertEqual(convert((block, INFO)), functions)

    def test_no_functions(self):
        self.converts(give(NO), (0, 2, give(NO)))
        block = give(n(3), prim(3, "plus", i(1), i(2)), ("sub", 5, give(n(3))))
        self.converts(block, (6, 8, block))

    def test_nothing_captured(self):
        """m is 8 and n is 2."""
        self.converts(give(n(7), fix((5, 7, give(n(7))),), call(6, n(5), i(1)))[:1] + (("give", n(6)),),
                      (8, 12, give(n(6), close(5, 1, NO), call(6, n(5), i(1)))), (9, 7, give(n(7))))

    def test_captured_names(self):
        """The names 2 and 9 are captured, in this order; m is 10 and n is 2."""
        body = give(n(5), bind(5, "tuple", (n(9), n(4), n(2), n(9))))
        block = give(n(3), prim(9, "ref", i(1)), prim(2, "ref", i(2)), prim(1, "ref", i(3)), fix((3, 4, body)))
        self.converts(block, (10, 14, give(n(3), *block[0][:3], bind(13, "tuple", (n(2), n(9))), close(3, 1, n(13)))),
                      (11, 4, give(n(5), part(2, 0, 11), part(9, 1, 11), bind(5, "tuple", (n(9), n(4), n(2), n(9))))))

    def test_a_function_that_uses_itself(self):
        self.converts(give(n(0), fix((0, 1, give(n(2), call(2, n(0), n(1)))))),
                      (3, 7, give(n(0), close(0, 1, NO))), (4, 1, give(n(2), close(0, 1, n(4)), call(2, n(0), n(1)))))

    def test_a_group(self):
        """Each function binds only what occurs free in its own block: m is 8 and n is 4."""
        group = fix((1, 2, give(n(7), call(7, n(3), n(0)))), (3, 4, give(n(4))), (5, 6, select("switch", n(6), ((0, give(n(1))),), give(n(5)))))
        block = give(n(1), prim(0, "ref", i(1)), group)
        self.converts(
            block,
            (8, 16, give(n(1), prim(0, "ref", i(1)), bind(13, "tuple", (n(0),)), close(1, 1, n(13)), close(3, 2, n(13)), close(5, 3, n(13)))),
            (9, 2, give(n(7), part(0, 0, 9), close(3, 2, n(9)), call(7, n(3), n(0)))),
            (10, 4, give(n(4))),
            (11, 6, select("switch", n(6), ((0, give(n(1))),), give(n(5)), close(1, 1, n(11)), close(5, 3, n(11)))))

    def test_functions_within_functions(self):
        """The inner function captures the parameter, the outer function and an outer name: m is 5 and n is 3."""
        inner = give(n(0), bind(4, "tuple", (n(1), n(2), n(0), n(3))))
        inner = (inner[0], ("give", n(4)))
        block = give(n(1), prim(0, "ref", i(1)), fix((1, 2, give(n(3), fix((3, 40, inner))))))
        block = (block[0], ("give", n(1)))
        m = 41
        self.converts(
            block,
            (m, m + 6, give(n(1), prim(0, "ref", i(1)), bind(m + 4, "tuple", (n(0),)), close(1, 1, n(m + 4)))),
            (m + 1, 2, give(n(3), part(0, 0, m + 1), close(1, 1, n(m + 1)), bind(m + 5, "tuple", (n(0), n(1), n(2))), close(3, 2, n(m + 5)))),
            (m + 2, 40, give(n(4), part(0, 0, m + 2), part(1, 1, m + 2), part(2, 2, m + 2), close(3, 2, n(m + 2)), bind(4, "tuple", (n(1), n(2), n(0), n(3))))))

    def test_numbers(self):
        """The functions of a group come first, then those in their blocks, then what follows the step."""
        def tell(k):
            return give(i(k))
        first = fix((1, 2, give(NO, fix((3, 4, tell(3))))), (5, 6, give(NO, fix((7, 8, tell(4)), (9, 10, tell(5))))))
        guard = ("guard", 11, give(NO, fix((12, 13, tell(6)))), 14, give(NO, fix((15, 16, tell(7)))))
        end = select("unpack", n(17), ((i(0), give(NO, fix((18, 19, tell(9))))), (i(1), give(NO, fix((20, 21, tell(10)))))), give(NO, fix((22, 23, tell(11)))),
                     first, guard, ("sub", 24, give(NO, fix((25, 26, tell(8))))), bind(17, "pack", i(1), None))
        functions = convert((end, INFO))
        self.assertEqual(len(functions), 12)
        for k in (3, 4, 5, 6, 7, 8, 9, 10, 11):
            self.assertEqual(functions[k][2], tell(k))
        self.assertEqual([row[1] for row in functions], [27 + 24, 2, 6, 4, 8, 10, 13, 16, 26, 19, 21, 23])
        self.assertEqual([row[0] for row in functions], list(range(27, 39)))

    def test_guards_and_selections(self):
        """Names in guards and selections are free, too; those bound within are not."""
        body = give(n(7), ("guard", 5, throw(n(0)), 6, give(n(6))),
                    ("sub", 7, select("unpack", n(1), ((n(2), give(n(3))),), give(n(8), bind(8, "tuple", (n(5), n(6 - 6)))))))
        block = give(n(9), *[prim(k, "ref", i(k)) for k in range(5)], fix((9, 10, body)))
        functions = convert((block, INFO))
        self.assertEqual(functions[1][2][0][:4], (part(0, 0, 12), part(1, 1, 12), part(2, 2, 12), part(3, 3, 12)))
        self.assertEqual(functions[1][2][0][4:], body[0])
        self.assertEqual(functions[0][2][0][5:], (bind(14, "tuple", (n(0), n(1), n(2), n(3))), close(9, 1, n(14))))

    def check_free(self, unit):
        functions = convert(unit)
        for number, (environment, parameter, block) in enumerate(functions):
            bound = names_bound(block)
            self.assertEqual(len(set(bound)), len(bound))
            self.assertTrue(set(bound).isdisjoint((environment, parameter)))
            known = set(bound) | {environment, parameter}
            for inner in all_blocks(block):
                self.assertNotIn("fix", [step[0] for step in inner[0]])
                for atom in atoms_within(inner):
                    self.assertTrue(atom[0] != "name" or atom[1] in known, number)

    def test_no_free_names(self):
        units = [(block, INFO) for block, _ in BLOCKS.values()]
        units += [normalize(elaborate(parse(text))) for text in PROGRAMS]
        for seed in range(700, 740):
            writer = Writer(random.Random(seed))
            tree = writer.program(4, 4)
            try:
                check(tree)
            except CheckError:
                continue
            units.append(normalize(elaborate(tree)))
        for unit in units:
            self.check_free(unit)
            self.check_free(optimize(unit))


if __name__ == "__main__":
    unittest.main()
