"""Matches: missing and unused (points 31 and 32)."""

import random
import time
import unittest

import values
from guanaco.cover import missing, unused
from guanaco.parser import parse_expression
from values import BOOL, DATA, EXN, INT, STRING, TYPES, listed, pair

ANY = ("any",)


def patterns(*texts):
    return [parse_expression(f"fn {text} => 0")[1][0][0] for text in texts]


class Matches(unittest.TestCase):
    def covers(self, ty, *texts):
        self.assertIsNone(missing(DATA, ty, patterns(*texts)), texts)

    def lacks(self, ty, *texts):
        """The values of the pattern in missing fit no pattern."""
        rows = patterns(*texts)
        found = missing(DATA, ty, rows)
        self.assertIsNotNone(found, texts)
        examples = values.samples(ty, found, 6)
        self.assertTrue(examples)
        for value in examples:
            self.assertIsNone(values.first_fit(value, rows), (texts, found, value))
        return found

    def test_plain_patterns(self):
        for ty in TYPES:
            self.covers(ty, "_")
            self.covers(ty, "x")
            self.assertEqual(missing(DATA, ty, []), ANY)

    def test_bool(self):
        self.covers(BOOL, "True", "False")
        self.covers(BOOL, "True", "_")
        self.assertEqual(self.lacks(BOOL, "True"), ("pcon", ("False",), None))
        self.assertEqual(self.lacks(BOOL, "False"), ("pcon", ("True",), None))
        self.covers(BOOL, "S.True", "False")

    def test_lists(self):
        ty = listed(BOOL)
        self.covers(ty, "[]", "x :: r")
        self.covers(ty, "[]", "[_]", "_ :: _ :: _")
        self.covers(ty, "[]", "True :: _", "False :: _")
        self.assertEqual(self.lacks(ty, "x :: r"), ("pcon", ("Nil",), None))
        self.assertEqual(self.lacks(ty, "[]"), ("pcon", ("Cons",), ANY))
        self.lacks(ty, "[]", "[_]")
        self.lacks(ty, "[]", "True :: _")
        self.lacks(ty, "[]", "True :: _", "[False]")
        self.lacks(ty, "[_, _, _]", "[]")

    def test_pairs(self):
        ty = pair(BOOL, BOOL)
        self.covers(ty, "(True, _)", "(_, False)", "(False, True)")
        self.covers(ty, "(True, True)", "(True, False)", "(False, True)", "(False, False)")
        self.assertEqual(self.lacks(ty, "(True, _)", "(_, False)"), (
            "ptuple", (("pcon", ("False",), None), ("pcon", ("True",), None))))
        self.lacks(ty, "(True, True)", "(False, False)")
        self.covers(("tuple", ()), "()")

    def test_types_without_end(self):
        for ty, texts in ((INT, ("0", "1", "~1")), (STRING, ('""', '"a"')), (EXN, ("E", "F _", "G _"))):
            self.assertEqual(self.lacks(ty, *texts), ANY)
            self.covers(ty, *texts, "_")
        found = self.lacks(pair(INT, BOOL), "(0, True)", "(_, False)")
        self.assertEqual(found, ("ptuple", (ANY, ("pcon", ("True",), None))))
        self.lacks(pair(EXN, BOOL), "(E, _)", "(F True, _)", "(_, True)")
        self.covers(pair(EXN, BOOL), "(E, False)", "(_, True)", "(F _, _)", "(_, False)")
        self.lacks(listed(INT), "[]", "[1]", "1 :: _")

    def test_data_types(self):
        color = ("con", "color.1", ())
        self.covers(color, "Red", "Green", "Blue")
        self.assertEqual(self.lacks(color, "Red", "Blue"), ("pcon", ("Green",), None))
        tree = ("con", "tree.2", (BOOL, INT))
        self.covers(tree, "Leaf _", "Node _", "Stop")
        self.lacks(tree, "Leaf 1", "Node _", "Stop")
        self.lacks(tree, "Leaf _", "Node (_, True)", "Stop")
        self.covers(tree, "Leaf _", "Node (_, True)", "Node (Leaf _, _)", "Node (_, False)", "Stop")
        self.lacks(tree, "Leaf _", "Node (Node _, _)", "Node (Stop, _)", "Stop")

    def test_abstract_types_and_others_without_patterns(self):
        for ty in (("con", "hidden.3", ()), ("var", "a"), ("fun", INT, INT), ("con", "ref", (BOOL,))):
            self.covers(pair(ty, BOOL), "(_, True)", "(x, False)")
            self.assertEqual(missing(DATA, pair(ty, BOOL), patterns("(_, True)")), (
                "ptuple", (ANY, ("pcon", ("False",), None))))

    def test_unused(self):
        for ty, texts, wanted in (
                (BOOL, ("True", "False"), None), (BOOL, ("True", "False", "_"), 2), (BOOL, ("_", "True"), 1),
                (BOOL, ("True", "True", "False"), 1), (INT, ("1", "2", "1", "_"), 2), (INT, ("_", "_"), 1),
                (INT, ("1", "2", "3"), None), (STRING, ('"a"', '"b"', '"a"'), 2), (listed(BOOL), ("[]", "_ :: _", "x"), 2),
                (listed(BOOL), ("[]", "[_]", "True :: _", "[False]"), 3), (EXN, ("E", "F _", "E", "_"), 2),
                (EXN, ("F True", "F False", "F _"), 2), (EXN, ("F True", "F _", "S.F x"), 2), (EXN, ("E", "x", "E"), 2),
                (pair(BOOL, BOOL), ("(True, _)", "(_, False)", "(False, True)", "_"), 3),
                (pair(BOOL, BOOL), ("(True, _)", "(_, True)", "(False, False)"), None),
                (pair(INT, BOOL), ("(1, _)", "(_, True)", "(1, False)"), 2), (("tuple", ()), ("()", "()"), 1),
                (("tuple", ()), ("()",), None), (BOOL, (), None)):
            self.assertEqual(unused(DATA, ty, patterns(*texts) if texts else []), wanted, texts)

    def test_against_values(self):
        counts = [0, 0, 0, 0]
        for seed in range(4000):
            choices = random.Random(seed)
            ty = choices.choice(TYPES)
            rows = [values.random_pattern(choices, ty, choices.randint(1, 5)) for _ in range(choices.randint(1, 7))]
            examples = values.values(ty, 3)
            firsts = [values.first_fit(value, rows) for value in examples]
            found = missing(DATA, ty, rows)
            counts[found is None] += 1
            if found is None:
                self.assertNotIn(None, firsts)
            else:
                for value in values.samples(ty, found, 6):
                    self.assertIsNone(values.first_fit(value, rows), (ty, rows, found))
            first = unused(DATA, ty, rows)
            counts[2 + (first is None)] += 1
            if first is not None:
                self.assertNotIn(first, firsts)
                self.assertIsNone(unused(DATA, ty, rows[:first]))
        self.assertGreater(min(counts), 300)

    def test_each_used_pattern_has_a_value(self):
        for seed in range(1500):
            choices = random.Random(seed)
            ty = choices.choice((BOOL, pair(BOOL, BOOL), ("con", "color.1", ()), pair(EXN, BOOL), pair(INT, BOOL)))
            rows = [values.random_pattern(choices, ty, 3) for _ in range(choices.randint(1, 6))]
            firsts = [values.first_fit(value, rows) for value in values.values(ty, 4)]
            first = unused(DATA, ty, rows)
            for k in range(len(rows) if first is None else first):
                self.assertIn(k, firsts, (ty, rows))

    def test_large_matches(self):
        six = pair(*[listed(BOOL)] * 6)
        rows = []
        for k in range(15):
            texts = ["_"] * 6
            texts[k - k // 6 * 6] = ("[]", "[_]", "True :: _")[k // 6]
            texts[(k + 1) - (k + 1) // 6 * 6] = ("_ :: _", "[]", "_")[k // 6]
            rows.append("(" + ", ".join(texts) + ")")
        begin = time.monotonic()
        self.assertIsNone(missing(DATA, six, patterns(*rows, "_")))
        self.assertIsNotNone(missing(DATA, six, patterns(*rows)))
        unused(DATA, six, patterns(*rows, "_"))
        self.assertLess(time.monotonic() - begin, 5)


if __name__ == "__main__":
    unittest.main()
