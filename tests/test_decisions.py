"""Decision trees (points 93 and 94)."""

import random
import unittest

import values
from guanaco.cover import missing
from guanaco.decisions import decide, follow
from test_cover import patterns
from values import BOOL, DATA, EXN, INT, STRING, TABLE, TYPES, listed, pair


def tests_of(pattern):
    own = int(pattern[0] in ("pcon", "pint", "pstring"))
    if pattern[0] == "ptuple":
        return sum(tests_of(part) for part in pattern[1])
    if pattern[0] == "pcon" and pattern[2] is not None:
        return own + tests_of(pattern[2])
    return own


class Trees(unittest.TestCase):
    def check_tree(self, tree, positions, count):
        """The form of a tree, and that no way looks at a position twice."""
        if tree[0] == "rule":
            self.assertIn(tree[1], range(count))
            return
        kind, position, branches, default = tree
        self.assertNotIn(position, positions)
        for step in position:
            self.assertTrue(step == "arg" or step in range(6))
        names = [name for name, _ in branches]
        self.assertTrue(names)
        self.assertEqual(len(names), len(set(names)))
        if kind == "switch":
            self.assert_order(names, default is None)
        else:
            self.assertIn(kind, ("choose", "unpack"))
            self.assertIsNotNone(default)
        for _, branch in branches:
            self.check_tree(branch, positions + [position], count)
        if default is not None:
            self.check_tree(default, positions + [position], count)

    def assert_order(self, names, whole):
        for _, constructors in TABLE.values():
            order = [name for name, _ in constructors if name in names]
            if order == names:
                self.assertEqual(whole, len(order) == len(constructors))
                return
        self.fail(names)

    def check(self, ty, *texts):
        rows = patterns(*texts)
        tree = decide(DATA, ty, rows)
        self.assertIsNotNone(tree)
        self.check_tree(tree, [], len(rows))
        for value in values.values(ty, 4)[:3000]:
            self.assertEqual(follow(tree, value), values.first_fit(value, rows), (texts, value))
        return tree

    def test_one_rule(self):
        for ty, text in ((BOOL, "_"), (INT, "x"), (pair(BOOL, INT), "(x, y)"), (("tuple", ()), "()"), (EXN, "_")):
            self.assertEqual(self.check(ty, text), ("rule", 0))

    def test_each_kind(self):
        self.assertEqual(self.check(BOOL, "True", "False"), (
            "switch", (), (("False", ("rule", 1)), ("True", ("rule", 0))), None))
        self.assertEqual(self.check(BOOL, "True", "_"), ("switch", (), (("True", ("rule", 0)),), ("rule", 1)))
        self.assertEqual(self.check(INT, "5", "_"), ("choose", (), ((5, ("rule", 0)),), ("rule", 1)))
        self.assertEqual(self.check(STRING, '"a"', "x"), ("choose", (), (("a", ("rule", 0)),), ("rule", 1)))
        self.assertEqual(self.check(EXN, "E", "S.G 1", "_"), (
            "unpack", (), (("E", ("rule", 0)), ("G", ("choose", ("arg",), ((1, ("rule", 1)),), ("rule", 2)))), ("rule", 2)))
        self.check(("con", "color.1", ()), "Blue", "Red", "Green")
        self.check(("con", "color.1", ()), "Blue", "_")

    def test_first_pattern_that_fits(self):
        self.check(listed(BOOL), "[]", "[True]", "True :: _", "x")
        self.check(pair(BOOL, BOOL), "(True, _)", "(_, True)", "_")
        self.check(pair(BOOL, BOOL), "(_, True)", "(True, _)", "(False, False)")
        self.check(pair(INT, INT, INT), "(0, _, 1)", "(_, 0, 1)", "(0, 0, _)", "(x, y, z)")
        self.check(pair(EXN, BOOL), "(E, True)", "(F x, x')", "(_, True)", "(E, _)", "_")
        self.check(("con", "tree.2", (BOOL, INT)), "Leaf 0", "Node (Leaf 1, True)", "Node (Stop, _)", "Stop", "_")
        self.check(pair(listed(INT), listed(INT)), "([], _)", "(_, [])", "(1 :: _, 2 :: _)", "_")

    def test_many_tests(self):
        rows = [f"({', '.join(['True'] * k + ['_'] * (6 - k))})" for k in (6, 5, 1)]
        self.check(pair(*[BOOL] * 6), *rows, "_")
        tree = decide(DATA, pair(*[BOOL] * 6), patterns(*rows, "(_, True, _, _, _, _)", "_"))
        self.assertTrue(tree is None or follow(tree, ("tuple", (("con", "False", None),) * 6)) == 4)

    def test_against_values(self):
        made = 0
        for seed in range(4000):
            choices = random.Random(seed)
            ty = choices.choice(TYPES)
            rows = [values.random_pattern(choices, ty, choices.randint(1, 4)) for _ in range(choices.randint(1, 6))]
            if missing(DATA, ty, rows) is not None:
                rows.append(("any",))
            tree = decide(DATA, ty, rows)
            if tree is None:
                self.assertGreater(sum(tests_of(row) for row in rows), 12)
                continue
            made += 1
            self.check_tree(tree, [], len(rows))
            for value in values.values(ty, 3)[:500]:
                self.assertEqual(follow(tree, value), values.first_fit(value, rows))
        self.assertGreater(made, 3000)


if __name__ == "__main__":
    unittest.main()
