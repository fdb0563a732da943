"""Emitting code (points 115 and 116)."""

import random
import unittest

from guanaco.assembly import read_code, write_code
from guanaco.checker import check
from guanaco.closures import convert
from guanaco.elaborate import elaborate
from guanaco.emitter import emit
from guanaco.errors import CheckError
from guanaco.inspect import is_sound
from guanaco.normal import normalize
from guanaco.optimizer import optimize
from guanaco.parser import parse
from programs import Writer
from random_units import Maker
from test_elaborate import PROGRAMS
from units import BLOCKS, NO, bind, call, fix, give, i, n, of, prim, s, select, throw


def atoms_of(end):
    return [end[1]] + ([z for z, _ in end[2]] if end[0] == "unpack" else [])


class Model:
    """The words of the points, without regard to deep blocks. Jumps have lists of one number, filled in later."""

    def __init__(self, environment, parameter):
        self.row = []
        self.slots = {environment: 0, parameter: 1}

    def load(self, atoms, free):
        found = []
        for atom in atoms:
            if atom[0] == "name":
                found.append(self.slots[atom[1]])
            else:
                self.row.append((atom[0], free, atom[1]))
                found.append(free)
                free += 1
        return found

    def block(self, block, free, target):
        steps, end = block
        for k, step in enumerate(steps):
            x = step[1]
            if step[0] == "sub":
                self.slots[x] = free
                self.block(step[2], free, free)
            elif step[0] == "guard":
                self.slots[x] = self.slots[step[3]] = free
                taken, behind = [], []
                self.row.append(("guard", free, taken))
                self.block(step[2], free, free)
                self.row.append(("unguard",))
                self.row.append(("jump", behind))
                taken.append(len(self.row))
                self.block(step[4], free + 1, free)
                behind.append(len(self.row))
            else:
                operation = step[2]
                tag = operation[0]
                atoms = operation[-1] if tag in ("prim", "tuple") else [part for part in operation[1:] if isinstance(part, tuple)]
                slots = self.load(atoms, free)
                if tag == "apply" and target == "tail" and k == len(steps) - 1 and end == ("give", ("name", x)):
                    self.row.append(("tail", *slots))
                    return
                self.slots[x] = free
                self.row.append({
                    "prim": ("prim", free, operation[1], tuple(slots)), "tuple": ("tuple", free, tuple(slots)), "apply": ("call", free, *slots),
                    "pack": ("pack", free, *slots, *([None] if operation[-1] is None else [])), "arg": ("arg", free, *slots),
                }.get(tag, (tag, free, operation[1], *slots)))
            free += 1
        self.end(end, free, target)

    def end(self, end, free, target):
        tag, atom = end[:2]
        if tag == "give" and target != "tail":
            if atom[0] != "name":
                self.row.append((atom[0], target, atom[1]))
            elif self.slots[atom[1]] != target:
                self.row.append(("move", target, self.slots[atom[1]]))
            return
        slot = self.load([atom], free)[0]
        if tag in ("give", "throw"):
            self.row.append(("return" if tag == "give" else "raise", slot))
            return
        blocks = [block for _, block in end[2]]
        places = [[] for _ in blocks]
        default = None if end[3] is None else []
        rows = list(zip(places, blocks))
        if tag == "unpack":
            place = free if atom[0] == "name" else free + 1
            for (z, _), label in zip(end[2], places):
                self.row.append(("same", slot, self.load([z], place)[0], label))
                place += z[0] != "name"
            rows.insert(0, (default, end[3]))
        else:
            self.row.append((tag, slot, [(c, label) for (c, _), label in zip(end[2], places)], default))
            if default is not None:
                rows.append((default, end[3]))
        behind = []
        for k, (label, block) in enumerate(rows):
            label.append(len(self.row))
            self.block(block, free, target)
            if target != "tail" and k < len(rows) - 1:
                self.row.append(("jump", behind))
        behind.append(len(self.row))

    def finished(self):
        def plain(part):
            if not isinstance(part, list):
                return part
            return part[0] if part and isinstance(part[0], int) else tuple((c, label[0]) for c, label in part)
        row = tuple(tuple(plain(part) for part in instruction) for instruction in self.row)
        return most_slots(row), row


def most_slots(row):
    """The least number of slots that suffices."""
    text = write_code(((2, row),))
    found = [1]
    for line in text.split("\n"):
        bare = line.split(" \"")[0] if line.startswith("string") else line
        for word in bare.replace("(", " ").replace(")", " ").replace(",", " ").split(" "):
            if word[:1] == "r" and word[1:].isdigit():
                found.append(int(word[1:]))
    return max(found) + 1


def modelled(functions):
    found = []
    for environment, parameter, block in functions:
        model = Model(environment, parameter)
        model.block(block, 2, "tail")
        found.append(model.finished())
    return tuple(found)


class Emitting(unittest.TestCase):
    def emits(self, block, slots, *row):
        """The code of a function with the environment 90 and the parameter 91."""
        functions = ((90, 91, block),)
        self.assertEqual(emit(functions), ((slots, row),))
        self.assertEqual(modelled(functions), ((slots, row),))
        self.assertTrue(is_sound(((slots, row),) * 9))

    def test_ends(self):
        self.emits(give(n(90)), 2, ("return", 0))
        self.emits(give(n(91)), 2, ("return", 1))
        self.emits(give(i(5)), 3, ("int", 2, 5), ("return", 2))
        self.emits(give(s("a")), 3, ("string", 2, "a"), ("return", 2))
        self.emits(give(("tag", 3)), 3, ("tag", 2, 3), ("return", 2))
        self.emits(throw(n(91)), 2, ("raise", 1))
        self.emits(throw(i(1)), 3, ("int", 2, 1), ("raise", 2))

    def test_binds(self):
        self.emits(give(n(0), prim(0, "plus", n(91), n(90))), 3, ("prim", 2, "plus", (1, 0)), ("return", 2))
        self.emits(give(n(0), prim(0, "plus", i(1), i(2))), 4, ("int", 2, 1), ("int", 3, 2), ("prim", 2, "plus", (2, 3)), ("return", 2))
        self.emits(give(n(0), prim(0, "plus", i(1), i(1))), 4, ("int", 2, 1), ("int", 3, 1), ("prim", 2, "plus", (2, 3)), ("return", 2))
        self.emits(give(n(0), bind(0, "tuple", (n(91), i(1), n(90), s("a"), NO))), 5,
                   ("int", 2, 1), ("string", 3, "a"), ("tag", 4, 0), ("tuple", 2, (1, 2, 0, 3, 4)), ("return", 2))
        self.emits(give(n(0), bind(0, "part", 3, n(91))), 3, ("part", 2, 3, 1), ("return", 2))
        self.emits(give(n(0), bind(0, "part", 3, i(1))), 3, ("int", 2, 1), ("part", 2, 3, 2), ("return", 2))
        self.emits(give(n(0), bind(0, "make", 3, s("x"))), 3, ("string", 2, "x"), ("make", 2, 3, 2), ("return", 2))
        self.emits(give(n(0), bind(0, "arg", n(91))), 3, ("arg", 2, 1), ("return", 2))
        self.emits(give(n(0), bind(0, "fresh", 7)), 3, ("fresh", 2, 7), ("return", 2))
        self.emits(give(n(0), bind(0, "close", 5, NO)), 3, ("tag", 2, 0), ("close", 2, 5, 2), ("return", 2))
        self.emits(give(n(0), bind(0, "close", 5, n(90))), 3, ("close", 2, 5, 0), ("return", 2))

    def test_exception_values(self):
        self.emits(give(n(0), bind(0, "pack", i(1), None)), 3, ("int", 2, 1), ("pack", 2, 2, None), ("return", 2))
        self.emits(give(n(0), bind(0, "pack", i(1), s("a"))), 4, ("int", 2, 1), ("string", 3, "a"), ("pack", 2, 2, 3), ("return", 2))
        self.emits(give(n(0), bind(0, "pack", n(91), s("a"))), 3, ("string", 2, "a"), ("pack", 2, 1, 2), ("return", 2))
        self.emits(give(n(0), bind(0, "pack", i(1), n(91))), 3, ("int", 2, 1), ("pack", 2, 2, 1), ("return", 2))

    def test_calls(self):
        self.emits(give(n(0), call(0, n(91), n(90))), 2, ("tail", 1, 0))
        self.emits(give(n(0), call(0, n(91), i(5))), 3, ("int", 2, 5), ("tail", 1, 2))
        self.emits(give(n(0), call(0, NO, i(5))), 4, ("tag", 2, 0), ("int", 3, 5), ("tail", 2, 3))
        self.emits(give(n(91), call(0, n(91), n(90))), 3, ("call", 2, 1, 0), ("return", 1))
        self.emits(give(i(3), call(0, n(91), n(90))), 4, ("call", 2, 1, 0), ("int", 3, 3), ("return", 3))
        self.emits(throw(n(0), call(0, n(91), n(90))), 3, ("call", 2, 1, 0), ("raise", 2))
        self.emits(give(n(0), call(0, n(91), n(90)), call(1, n(91), n(0))), 4, ("call", 2, 1, 0), ("call", 3, 1, 2), ("return", 2))
        self.emits(give(n(1), call(0, n(91), n(90)), call(1, n(91), n(0))), 3, ("call", 2, 1, 0), ("tail", 1, 2))
        self.emits(give(n(0), ("sub", 0, give(n(1), call(1, n(91), n(90))))), 3, ("call", 2, 1, 0), ("return", 2))
        self.emits(give(n(0), prim(0, "get", n(91))), 3, ("prim", 2, "get", (1,)), ("return", 2))

    def test_subs(self):
        self.emits(give(n(0), ("sub", 0, give(n(91)))), 3, ("move", 2, 1), ("return", 2))
        self.emits(give(n(0), ("sub", 0, give(i(1)))), 3, ("int", 2, 1), ("return", 2))
        self.emits(give(n(0), ("sub", 0, throw(n(91)))), 3, ("raise", 1), ("return", 2))
        self.emits(give(n(0), ("sub", 0, throw(i(1)))), 3, ("int", 2, 1), ("raise", 2), ("return", 2))
        self.emits(give(n(0), ("sub", 0, give(n(1), bind(1, "fresh", 0)))), 3, ("fresh", 2, 0), ("return", 2))
        self.emits(give(n(0), ("sub", 0, give(n(2), bind(1, "fresh", 0), bind(2, "fresh", 1)))), 4, ("fresh", 2, 0), ("fresh", 3, 1), ("move", 2, 3), ("return", 2))
        self.emits(give(n(5), bind(4, "fresh", 0), ("sub", 5, give(n(4)))), 4, ("fresh", 2, 0), ("move", 3, 2), ("return", 3))
        self.emits(give(n(0), ("sub", 0, give(s("b"), bind(1, "fresh", 0)))), 3, ("fresh", 2, 0), ("string", 2, "b"), ("return", 2))
        self.emits(give(n(91), ("sub", 0, throw(n(91)))), 2, ("raise", 1), ("return", 1))

    def test_guards(self):
        self.emits(give(n(0), ("guard", 0, give(i(1)), 1, give(n(1)))), 3, ("guard", 2, 4), ("int", 2, 1), ("unguard",), ("jump", 4), ("return", 2))
        self.emits(give(n(0), ("guard", 0, give(n(91)), 1, give(i(2)))), 3,
                   ("guard", 2, 4), ("move", 2, 1), ("unguard",), ("jump", 5), ("int", 2, 2), ("return", 2))
        self.emits(give(n(0), ("guard", 0, give(n(2), call(2, n(91), n(90))), 1, give(n(3), call(3, n(91), n(1))))), 4,
                   ("guard", 2, 4), ("call", 2, 1, 0), ("unguard",), ("jump", 6), ("call", 3, 1, 2), ("move", 2, 3), ("return", 2))
        self.emits(give(n(0), ("guard", 0, throw(n(91)), 1, throw(n(1)))), 3, ("guard", 2, 4), ("raise", 1), ("unguard",), ("jump", 5), ("raise", 2), ("return", 2))
        inner = give(n(4), ("guard", 4, give(i(1)), 5, give(i(2))))
        self.emits(give(n(0), bind(7, "fresh", 0), ("guard", 0, inner, 1, give(n(7)))), 4,
                   ("fresh", 2, 0), ("guard", 3, 9), ("guard", 3, 6), ("int", 3, 1), ("unguard",), ("jump", 7), ("int", 3, 2),
                   ("unguard",), ("jump", 10), ("move", 3, 2), ("return", 3))

    def test_switches_in_tail_position(self):
        self.emits(select("switch", n(91), ((0, give(i(1))), (2, give(n(0), bind(0, "arg", n(91))))), throw(n(90))), 3,
                   ("switch", 1, ((0, 1), (2, 3)), 5), ("int", 2, 1), ("return", 2), ("arg", 2, 1), ("return", 2), ("raise", 0))
        self.emits(select("switch", n(91), ((0, give(i(1))), (1, give(n(90)))), None), 3,
                   ("switch", 1, ((0, 1), (1, 3)), None), ("int", 2, 1), ("return", 2), ("return", 0))
        self.emits(select("switch", ("tag", 1), (), None), 3, ("tag", 2, 1), ("switch", 2, (), None))
        self.emits(select("switch", n(91), (), give(n(90))), 2, ("switch", 1, (), 1), ("return", 0))
        self.emits(select("choose", i(7), ((5, give(n(0), call(0, n(91), n(90)))), (-1, give(n(91)))), give(n(90))), 3,
                   ("int", 2, 7), ("choose", 2, ((5, 2), (-1, 3)), 4), ("tail", 1, 0), ("return", 1), ("return", 0))
        self.emits(select("choose", s("x"), (("b", give(n(91))), ("a", give(n(91)))), give(n(90))), 3,
                   ("string", 2, "x"), ("choose", 2, (("b", 2), ("a", 3)), 4), ("return", 1), ("return", 1), ("return", 0))

    def test_switches_elsewhere(self):
        inner = select("switch", n(91), ((0, give(i(1))), (2, throw(n(90)))), give(n(91)))
        self.emits(give(n(0), ("sub", 0, inner)), 3, ("switch", 1, ((0, 1), (2, 3)), 5), ("int", 2, 1), ("jump", 6), ("raise", 0), ("jump", 6), ("move", 2, 1), ("return", 2))
        inner = select("switch", n(5), ((0, give(n(5))), (1, give(n(5)))), None, bind(5, "fresh", 0))
        self.emits(give(n(0), ("sub", 0, inner)), 3, ("fresh", 2, 0), ("switch", 2, ((0, 2), (1, 3)), None), ("jump", 3), ("return", 2))
        inner = select("choose", i(1), ((4, give(n(8), call(8, n(91), n(90)))),), give(i(2)), bind(5, "fresh", 0))
        self.emits(give(n(0), ("sub", 0, inner)), 4, ("fresh", 2, 0), ("int", 3, 1), ("choose", 3, ((4, 3),), 6), ("call", 3, 1, 0), ("move", 2, 3),
                   ("jump", 7), ("int", 2, 2), ("return", 2))
        inner = select("choose", n(91), (), give(i(2)))
        self.emits(give(n(0), ("sub", 0, inner)), 3, ("choose", 1, (), 1), ("int", 2, 2), ("return", 2))

    def test_unpacks(self):
        self.emits(select("unpack", n(91), ((i(1), give(i(7))), (n(90), give(n(91)))), throw(n(91))), 3,
                   ("int", 2, 1), ("same", 1, 2, 4), ("same", 1, 0, 6), ("raise", 1), ("int", 2, 7), ("return", 2), ("return", 1))
        self.emits(select("unpack", n(91), (), give(n(90))), 2, ("return", 0))
        self.emits(select("unpack", NO, ((i(1), give(n(90))), (i(2), give(n(90))), (n(91), give(n(91))), (i(3), give(n(90)))), give(n(91))), 6,
                   ("tag", 2, 0), ("int", 3, 1), ("same", 2, 3, 9), ("int", 4, 2), ("same", 2, 4, 10), ("same", 2, 1, 11), ("int", 5, 3), ("same", 2, 5, 12),
                   ("return", 1), ("return", 0), ("return", 0), ("return", 1), ("return", 0))
        inner = select("unpack", n(91), ((i(1), give(i(7))), (i(2), give(n(91)))), throw(n(91)), bind(4, "fresh", 0))
        self.emits(give(n(0), ("sub", 0, inner)), 5,
                   ("fresh", 2, 0), ("int", 3, 1), ("same", 1, 3, 7), ("int", 4, 2), ("same", 1, 4, 9), ("raise", 1), ("jump", 10), ("int", 2, 7), ("jump", 10),
                   ("move", 2, 1), ("return", 2))
        self.emits(give(n(0), ("sub", 0, select("unpack", n(91), (), give(n(90))))), 3, ("move", 2, 0), ("return", 2))

    def test_functions(self):
        self.assertEqual(emit(((5, 6, give(n(5))), (6, 5, give(n(5))))), ((2, (("return", 0),)), (2, (("return", 1),))))
        self.assertEqual(emit(convert(of(give(n(0), fix((0, 1, give(n(2), call(2, n(0), n(1)))))))), ), (
            (4, (("tag", 2, 0), ("close", 2, 1, 2), ("tuple", 3, (2,)), ("return", 3))), (3, (("close", 2, 1, 0), ("tail", 2, 1)))))

    def check_unit(self, unit):
        for found in (unit, optimize(unit)):
            functions = convert(found)
            code = emit(functions)
            self.assertEqual(code, modelled(functions))
            self.assertTrue(is_sound(code))
            self.assertEqual(read_code(write_code(code)), code)

    def test_units(self):
        for block, ty in BLOCKS.values():
            self.check_unit(of(block, ty))
        for text in PROGRAMS:
            self.check_unit(normalize(elaborate(parse(text))))
        for seed in range(200):
            self.check_unit(Maker(random.Random(seed)).unit())

    def test_random_programs(self):
        for seed in range(900, 960):
            tree = Writer(random.Random(seed)).program(4, 4)
            try:
                check(tree)
            except CheckError:
                continue
            self.check_unit(normalize(elaborate(tree)))

    def test_deep_blocks(self):
        block = give(n(0), ("sub", 0, give(i(1))))
        for _ in range(3000):
            block = ((("sub", 0, block),), ("give", n(0)))
        rows = emit(((90, 91, block),))[0][1]
        self.assertEqual(rows, (("int", 2, 1), ("return", 2)))


if __name__ == "__main__":
    unittest.main()
