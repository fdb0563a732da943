"""Building (points 133 and 134)."""

import copy
import random
import unittest

from guanaco.build import Build
from guanaco.units import compile_unit


def put(name, text, *imports):
    return ("put", (name, imports, text))


def drop(name):
    return ("drop", name)


class Builds(unittest.TestCase):
    def check_build(self, build):
        """The objects and errors are those of a build from nothing."""
        units = build.units()
        fresh = Build()
        fresh.apply([("put", unit) for unit in units])
        self.assertEqual(fresh.units(), units)
        self.assertEqual(fresh.objects(), build.objects())
        for name, imports, _ in units:
            self.assertEqual(fresh.state(name), build.state(name))
            kind, what = build.state(name)
            if kind == "object":
                interfaces = {other: build.state(other)[1][3] for other in imports}
                self.assertEqual(what, compile_unit((name, imports, dict((unit[0], unit[2]) for unit in units)[name]), interfaces))
        self.assertEqual(build.objects(), [build.state(unit[0])[1] for unit in units if build.state(unit[0])[0] == "object"])

    def applies(self, build, edits, *names):
        self.assertEqual(build.apply(edits), list(names), edits)
        self.check_build(build)

    def errors(self, build):
        return {unit[0]: build.state(unit[0])[1] for unit in build.units() if build.state(unit[0])[0] == "error"}

    def test_an_empty_build(self):
        build = Build()
        self.assertEqual((build.units(), build.objects(), build.state("A")), ([], [], None))
        self.applies(build, [])
        self.applies(build, [drop("A")])
        self.assertEqual((build.units(), build.state("A")), ([], None))

    def test_units_and_their_order(self):
        build = Build()
        self.applies(build, [put("B", "val x = 1"), put("A", "val x = 2")], "A", "B")
        self.assertEqual(build.units(), [("B", (), "val x = 1"), ("A", (), "val x = 2")])
        self.assertEqual([row[0] for row in build.objects()], ["B", "A"])
        self.applies(build, [put("B", "val x = 3"), put("C", "")], "B", "C")
        self.assertEqual([unit[0] for unit in build.units()], ["B", "A", "C"])
        self.applies(build, [drop("B"), put("B", "val x = 3")], "B")
        self.assertEqual([unit[0] for unit in build.units()], ["A", "C", "B"])
        self.applies(build, [drop("A"), drop("A"), drop("X")])
        self.assertEqual([unit[0] for unit in build.units()], ["C", "B"])
        self.assertIsNone(build.state("A"))

    def test_the_order_of_compiling(self):
        build = Build()
        self.applies(build, [put("Z", ""), put("M", "", "Z", "B"), put("A", "", "Z"), put("B", "", "Z"), put("C", "")], "C", "Z", "A", "B", "M")
        build = Build()
        self.applies(build, [put("A", "", "D"), put("B", "", "D"), put("C", "", "A"), put("D", ""), put("a", ""), put("B'", "", "a")], "D", "A", "B", "C", "a", "B'")

    def test_one_edit_after_the_other(self):
        build = Build()
        self.applies(build, [put("A", "val x = 1"), put("A", "val x = 2"), put("A", "val x = 3")], "A")
        self.assertEqual(build.units(), [("A", (), "val x = 3")])
        self.applies(build, [put("A", "val x = 4"), put("A", "val x = 3")])
        self.applies(build, [put("A", "val x = 5"), drop("A")])
        self.assertEqual(build.units(), [])
        self.applies(build, [put("A", "val x = 3")], "A")

    def test_what_keeps_its_object(self):
        build = Build()
        first = [put("A", "val x = 1"), put("B", "val y = A.x", "A"), put("C", "val z = B.y", "B"), put("D", "val w = 1")]
        self.applies(build, first, "A", "B", "C", "D")
        self.applies(build, [])
        self.applies(build, first)
        self.applies(build, [put("A", "val x = 2")], "A")
        self.applies(build, [put("A", "datatype t = T exception E val x = 3")], "A")
        self.applies(build, [put("A", "val x = 3 val t = (fn x => x) 4")], "A", "B")
        self.applies(build, [put("A", "val t = 3 val x = 4")], "A", "B")
        self.applies(build, [put("A", "datatype t = T val t = T val x = 4")], "A", "B")
        self.applies(build, [put("A", "val t = [] val x = 4")], "A", "B")
        self.applies(build, [put("D", "val w = 1 ")], "D")
        self.applies(build, [put("B", "val y = 7", "A")], "B")
        self.applies(build, [put("B", "val y = 7", "A", "D")], "B")
        self.applies(build, [put("B", "val y = 7", "D", "A")], "B")
        self.applies(build, [put("B", "val y = 7", "D")], "B")
        self.applies(build, [put("D", "val v = 1")], "D", "B")
        self.applies(build, [put("B", "val y = \"a\"", "D")], "B", "C")
        self.applies(build, [drop("A")])

    def test_texts_with_errors(self):
        build = Build()
        texts = {"T": ("val ?", "TokenError"), "P": ("val", "ParseError"), "S": ("val x = y", "ScopeError"), "M": ("val x = 1 + True", "Mismatch"),
                 "U": ("val x = case 1 of 2 => 3", "Uncovered"), "V": ("val x = fn _ => 1 | _ => 2", "Unused"), "L": (" " * 4001, "LimitError"),
                 "G": ("structure S : sig val x : int end = struct end", "SignatureError")}
        self.applies(build, [put(name, text) for name, (text, _) in texts.items()], *sorted(texts))
        self.assertEqual(self.errors(build), {name: ("text", error) for name, (_, error) in texts.items()})
        self.assertEqual(build.objects(), [])
        self.applies(build, [], *sorted(texts))
        self.applies(build, [put("S", "val x = 1")], *sorted(texts))
        self.applies(build, [drop(name) for name in texts if name not in "ST"], "T")
        self.assertEqual(build.state("S")[0], "object")

    def test_errors_of_imports(self):
        build = Build()
        self.applies(build, [put("A", "val x = y"), put("B", "", "A"), put("C", "", "B"), put("D", "", "Q"), put("E", "", "F", "Q", "A"), put("F", "")], "A", "F")
        self.assertEqual(self.errors(build), {"A": ("text", "ScopeError"), "B": ("import", "A"), "C": ("import", "B"), "D": ("import", "Q"), "E": ("import", "Q")})
        self.applies(build, [put("E", "", "F", "A", "Q")], "A")
        self.assertEqual(build.state("E"), ("error", ("import", "A")))
        self.applies(build, [put("A", "val x = 1")], "A", "B", "C")
        self.assertEqual(self.errors(build), {"D": ("import", "Q"), "E": ("import", "Q")})
        self.applies(build, [put("Q", "")], "Q", "D", "E")
        self.assertEqual(self.errors(build), {})
        self.applies(build, [drop("A")])
        self.assertEqual(self.errors(build), {"B": ("import", "A"), "C": ("import", "B"), "E": ("import", "A")})
        self.applies(build, [put("A", "val x = 1")], "A", "B", "C", "E")

    def test_errors_go_with_their_units(self):
        build = Build()
        self.applies(build, [put("A", "val ?"), put("B", "", "A")], "A")
        self.applies(build, [drop("A"), drop("B")])
        self.assertEqual((build.state("A"), build.state("B"), build.units()), (None, None, []))

    def test_a_unit_without_its_import_is_compiled_again(self):
        build = Build()
        self.applies(build, [put("A", "val x = 1"), put("B", "val y = A.x", "A")], "A", "B")
        self.applies(build, [drop("A")])
        self.applies(build, [put("A", "val x = 1")], "A", "B")
        self.applies(build, [put("A", "val x = ")], "A")
        self.applies(build, [put("A", "val x = 1")], "A", "B")

    def test_an_import_that_lacks_what_is_used(self):
        build = Build()
        self.applies(build, [put("A", "val x = 1"), put("B", "val y = A.x", "A"), put("C", "", "B")], "A", "B", "C")
        self.applies(build, [put("A", "val z = 1")], "A", "B")
        self.assertEqual(self.errors(build), {"B": ("text", "ScopeError"), "C": ("import", "B")})
        self.applies(build, [put("A", "val x = \"a\"")], "A", "B", "C")
        self.assertEqual(self.errors(build), {})

    def test_cycles(self):
        build = Build()
        self.applies(build, [put("A", "", "B"), put("B", "", "C"), put("C", "", "F", "A"), put("D", "", "F", "A"), put("E", "", "D"), put("F", "")], "F")
        self.assertEqual(self.errors(build), {"A": ("import", "B"), "B": ("import", "C"), "C": ("import", "A"), "D": ("import", "A"), "E": ("import", "D")})
        self.applies(build, [put("C", "", "F")], "C", "B", "A", "D", "E")
        self.applies(build, [put("F", "", "E")])
        self.assertEqual(self.errors(build), {"F": ("import", "E"), "C": ("import", "F"), "B": ("import", "C"), "A": ("import", "B"), "D": ("import", "F"), "E": ("import", "D")})
        build = Build()
        self.applies(build, [put("A", "val ?"), put("B", "", "C", "A"), put("C", "", "A", "B"), put("D", "", "Q", "B")], "A")
        self.assertEqual(self.errors(build), {"A": ("text", "TokenError"), "B": ("import", "C"), "C": ("import", "A"), "D": ("import", "Q")})

    def test_lists_are_the_callers_own(self):
        build = Build()
        edits = [put("A", "val x = 1"), put("B", "val ?")]
        before = copy.deepcopy(edits)
        names = build.apply(edits)
        self.assertEqual(edits, before)
        kept = copy.deepcopy([names, build.units(), build.objects(), build.state("A"), build.state("B")])
        for found in (names, build.units(), build.objects(), edits):
            found.clear()
        self.assertEqual([["A", "B"], build.units(), build.objects(), build.state("A"), build.state("B")], kept)
        other = Build()
        self.assertEqual((other.units(), other.state("A")), ([], None))

    def test_random_edits(self):
        """Groups of edits give what a build from nothing gives, and compile what point 134 says."""
        names = ["A", "B", "C", "D", "E'"]
        for seed in range(60):
            chance = random.Random(seed)
            build = Build()
            made = {}
            for _ in range(8):
                edits = []
                for _ in range(chance.randint(0, 3)):
                    name = chance.choice(names)
                    imports = tuple(chance.sample([other for other in names if other != name], chance.randint(0, 2)))
                    text = chance.choice(("val x = 1", "val x = 2", "val x = \"a\"", "datatype t = T val x = T", "val y = 1 val x = 3", "val ?", "exception E"))
                    if imports and chance.random() < 0.5:
                        text = f"val x = {imports[0]}.x"
                    edits.append(drop(name) if chance.random() < 0.2 else put(name, text, *imports))
                for kind, what in edits:
                    if kind == "drop":
                        made.pop(what, None)
                begun = build.apply(edits)
                self.check_build(build)
                wanted = []
                units = {unit[0]: unit for unit in build.units()}
                done = []
                while True:
                    ready = [name for name in units if name not in done and all(other in done and build.state(other)[0] == "object" for other in units[name][1])]
                    if not ready:
                        break
                    name = min(ready)
                    done.append(name)
                    needs = tuple(build.state(other)[1][3] for other in units[name][1])
                    if made.get(name) != (units[name], needs):
                        wanted.append(name)
                    made[name] = (units[name], needs)
                    if build.state(name)[0] != "object":
                        del made[name]
                for name in list(made):
                    if name not in done:
                        del made[name]
                self.assertEqual(begun, wanted, seed)


if __name__ == "__main__":
    unittest.main()
