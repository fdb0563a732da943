"""Sound code (point 114)."""

import random
import unittest

from codes import random_code
from guanaco.inspect import is_sound
from guanaco.primitives import is_primitive, takes_pair

R = ("return", 0)
LAST = ("tail", "return", "jump", "switch", "choose", "raise")


def of(*row, slots=4):
    return ((slots, row),)


def reads(instruction):
    tag, *parts = instruction
    return {
        "int": [], "string": [], "tag": [], "fresh": [], "unguard": [], "guard": [], "jump": [], "move": parts[1:], "arg": parts[1:], "part": parts[2:],
        "make": parts[2:], "close": parts[2:], "call": parts[1:], "tail": parts, "return": parts, "raise": parts, "switch": parts[:1], "choose": parts[:1],
        "same": parts[:2], "prim": list(parts[-1]) if tag == "prim" else [], "tuple": list(parts[-1]) if tag == "tuple" else [],
        "pack": [slot for slot in parts[1:] if slot is not None],
    }[tag]


def jumps(instruction):
    tag, *parts = instruction
    if tag in ("switch", "choose"):
        return [at for _, at in parts[1]] + ([parts[2]] if parts[2] is not None else [])
    return parts[-1:] if tag in ("jump", "same", "guard") else []


GIVING = ("int", "string", "tag", "move", "prim", "tuple", "part", "make", "arg", "fresh", "pack", "close", "call")


def sound(code):
    """As is_sound, by looking at each state that a way can reach."""
    for slots, row in code:
        for instruction in row:
            given = [instruction[1]] if instruction[0] in GIVING + ("guard",) else []
            if any(slot >= slots for slot in reads(instruction) + given) or any(at >= len(row) for at in jumps(instruction)):
                return False
            if instruction[0] == "close" and instruction[2] >= len(code):
                return False
            if instruction[0] == "prim" and (not is_primitive(instruction[2]) or len(instruction[3]) != (2 if takes_pair(instruction[2]) else 1)):
                return False
        if row[-1][0] not in LAST:
            return False
        states = {(0, frozenset((0, 1)), 0)}
        work = list(states)
        guards = {}
        while work:
            at, filled, count = work.pop()
            instruction = row[at]
            tag = instruction[0]
            if guards.setdefault(at, count) != count or not filled.issuperset(reads(instruction)):
                return False
            if (tag in ("tail", "return") and count) or (tag == "unguard" and not count):
                return False
            found = []
            if tag == "guard":
                found = [(instruction[2], filled | {instruction[1]}, count), (at + 1, filled, count + 1)]
            else:
                behind = filled | {instruction[1]} if tag in GIVING else filled
                found = [(target, behind, count) for target in jumps(instruction)]
                if tag not in LAST:
                    found.append((at + 1, behind, count - 1 if tag == "unguard" else count))
            for state in found:
                if state not in states:
                    states.add(state)
                    work.append(state)
    return True


class Soundness(unittest.TestCase):
    def keeps(self, *codes):
        for code in codes:
            self.assertTrue(is_sound(code), code)
            self.assertTrue(sound(code), code)

    def breaks(self, *codes):
        for code in codes:
            self.assertFalse(is_sound(code), code)
            self.assertFalse(sound(code), code)

    def test_slots_in_range(self):
        for make in (lambda k: ("int", k, 1), lambda k: ("string", k, ""), lambda k: ("tag", k, 1), lambda k: ("move", k, 0), lambda k: ("prim", k, "size", (0,)),
                     lambda k: ("tuple", k, (0,)), lambda k: ("part", k, 0, 0), lambda k: ("make", k, 0, 0), lambda k: ("arg", k, 0), lambda k: ("fresh", k, 0),
                     lambda k: ("pack", k, 0, None), lambda k: ("close", k, 0, 0), lambda k: ("call", k, 0, 0)):
            self.keeps(of(make(3), ("raise", 0)))
            self.breaks(of(make(4), ("raise", 0)), of(("raise", 0), make(4), ("raise", 0)))
        self.keeps(of(("guard", 3, 2), ("raise", 0), R))
        self.breaks(of(("guard", 4, 2), ("raise", 0), R), of(R, ("guard", 4, 2), R))
        fill = (("int", 2, 1), ("int", 3, 1))
        for make in (lambda k: ("move", 0, k), lambda k: ("prim", 0, "size", (k,)), lambda k: ("prim", 0, "plus", (0, k)), lambda k: ("tuple", 0, (0, k, 0)),
                     lambda k: ("part", 0, 0, k), lambda k: ("make", 0, 0, k), lambda k: ("arg", 0, k), lambda k: ("pack", 0, k, None), lambda k: ("pack", 0, 0, k),
                     lambda k: ("close", 0, 0, k), lambda k: ("call", 0, k, 0), lambda k: ("call", 0, 0, k), lambda k: ("tail", k, 0), lambda k: ("tail", 0, k),
                     lambda k: ("return", k), lambda k: ("switch", k, (), None), lambda k: ("choose", k, (), 0), lambda k: ("same", k, 0, 0),
                     lambda k: ("same", 0, k, 0), lambda k: ("raise", k)):
            self.keeps(of(*fill, make(3), R))
            self.breaks(of(*fill, make(4), R), of(make(3), R), of(R, make(4), R))
            self.keeps(of(R, make(3), R))
        self.keeps(of(R, slots=2), of(("return", 1), slots=2), of(("int", 10 ** 17, 5), ("return", 10 ** 17), slots=10 ** 17 + 1))
        self.breaks(of(("return", 2), slots=2), of(("return", 2), slots=3), of(("int", 10 ** 17, 5), ("return", 10 ** 17), slots=10 ** 17))

    def test_instructions_in_range(self):
        for make in (lambda t: ("jump", t), lambda t: ("switch", 0, ((0, t),), None), lambda t: ("switch", 0, (), t), lambda t: ("choose", 0, ((0, t),), 0),
                     lambda t: ("choose", 0, (), t), lambda t: ("same", 0, 1, t)):
            self.keeps(of(make(1), R))
            self.breaks(of(make(2), R), of(R, make(3), R))
        self.keeps(of(("guard", 2, 3), ("unguard",), R, R))
        self.breaks(of(("guard", 2, 4), ("unguard",), R, R))

    def test_functions_and_declarations(self):
        self.keeps(of(("close", 0, 0, 0), R), of(("close", 0, 1, 0), R) + of(R), of(("fresh", 0, 99), R))
        self.breaks(of(("close", 0, 1, 0), R), of(("close", 0, 2, 0), R) + of(R), of(R, ("close", 0, 1, 0), R))

    def test_primitives(self):
        for op in ("plus", "minus", "times", "quotient", "remainder", "equal", "unequal", "less", "atmost", "greater", "atleast", "concat", "code", "same", "assign"):
            self.keeps(of(("prim", 0, op, (0, 0)), R))
            self.breaks(of(("prim", 0, op, (0,)), R), of(("prim", 0, op, (0, 0, 0)), R), of(R, ("prim", 0, op, (0,)), R))
        for op in ("negate", "size", "digits", "print", "ref", "get"):
            self.keeps(of(("prim", 0, op, (0,)), R))
            self.breaks(of(("prim", 0, op, (0, 0)), R), of(("prim", 0, op, ()), R))
        self.breaks(of(("prim", 0, "foo", (0,)), R), of(R, ("prim", 0, "foo", (0,)), R))

    def test_last_instructions(self):
        for last in (("tail", 0, 1), R, ("jump", 0), ("switch", 0, ((0, 0),), None), ("switch", 0, (), None), ("choose", 0, (), 0), ("raise", 1)):
            self.keeps(of(last))
        for last in (("int", 0, 1), ("move", 0, 1), ("prim", 0, "size", (0,)), ("call", 0, 0, 0), ("same", 0, 0, 0), ("unguard",), ("fresh", 0, 0)):
            self.breaks(of(last), of(R, last), of(R) + of(last))
        self.breaks(of(R, ("guard", 0, 0)))

    def test_empty_slots_on_ways(self):
        one = ("switch", 0, ((0, 1),), 3)
        self.keeps(of(one, ("int", 2, 1), ("jump", 4), ("int", 2, 2), ("return", 2)))
        self.breaks(of(one, ("int", 2, 1), ("jump", 4), ("int", 3, 2), ("return", 2)), of(one, ("int", 3, 1), ("jump", 4), ("int", 2, 2), ("return", 2)))
        self.breaks(of(("return", 2)), of(("move", 2, 3), R), of(("move", 2, 2), R), of(("tuple", 2, (2,)), R), of(("int", 2, 1), ("return", 3)))
        self.keeps(of(("int", 2, 1), ("move", 2, 2), ("return", 2)), of(("prim", 2, "size", (0,)), ("return", 2)))
        self.breaks(of(("choose", 0, ((1, 2),), 1), ("int", 2, 1), ("return", 2)), of(("same", 0, 1, 2), ("int", 2, 1), ("return", 2)))
        self.keeps(of(("jump", 2), ("return", 3), R))

    def test_guards_and_slots(self):
        """At a guard's t its d has a value, and what had one at the guard; not what was given one behind it."""
        self.keeps(of(("int", 2, 1), ("guard", 3, 5), ("unguard",), R, R, ("tuple", 2, (0, 1, 2, 3)), R))
        self.breaks(of(("guard", 3, 4), ("int", 2, 1), ("unguard",), R, ("return", 2)))
        self.breaks(of(("guard", 3, 4), ("int", 2, 1), ("unguard",), ("return", 3), R))
        self.keeps(of(("guard", 3, 4), ("int", 2, 1), ("unguard",), ("return", 2), ("return", 3)))
        self.breaks(of(("guard", 3, 4), ("unguard",), ("jump", 4), R, ("return", 3)))
        self.keeps(of(("guard", 3, 5), ("int", 3, 1), ("unguard",), ("jump", 5), R, ("return", 3)))
        self.breaks(of(("guard", 3, 2), ("move", 2, 3), ("raise", 3)))

    def test_numbers_of_guards(self):
        self.keeps(of(("guard", 2, 3), ("unguard",), R, R), of(("guard", 2, 6), ("guard", 3, 5), ("unguard",), ("unguard",), R, ("unguard",), R),
                   of(("guard", 2, 2), ("raise", 0), ("return", 2)), of(("guard", 2, 2), ("jump", 1), R))
        self.breaks(of(("unguard",), R), of(("guard", 2, 2), R, R), of(("guard", 2, 2), ("tail", 0, 1), R), of(("guard", 2, 4), ("unguard",), ("unguard",), R, R),
                    of(("guard", 2, 3), ("unguard",), R, ("unguard",), R))
        self.breaks(of(("guard", 2, 2), ("jump", 2), R))
        self.breaks(of(("switch", 0, ((0, 1),), 2), ("guard", 2, 2), ("raise", 0)))
        self.keeps(of(("guard", 2, 3), ("raise", 0), R, R))
        self.breaks(of(("guard", 2, 1), ("raise", 0)))

    def test_loops(self):
        self.keeps(of(("jump", 0)), of(("int", 2, 1), ("move", 3, 2), ("switch", 0, ((0, 1),), 0)), of(("guard", 2, 0), ("unguard",), ("jump", 0)))
        self.breaks(of(("guard", 2, 1), ("jump", 0)), of(("guard", 2, 2), ("jump", 0), R), of(("switch", 0, ((0, 3),), 1), ("int", 2, 1), ("jump", 0), ("return", 2)))
        self.breaks(of(("guard", 2, 3), ("unguard",), ("unguard",), ("jump", 0)))
        self.keeps(of(("int", 2, 0), ("jump", 3), ("int", 3, 1), ("switch", 2, ((0, 2),), 4), ("return", 2)))
        self.breaks(of(("int", 2, 0), ("jump", 3), ("int", 3, 1), ("switch", 2, ((0, 2),), 4), ("return", 3)))

    def test_what_no_way_reaches(self):
        for rest in ((("return", 3),), (("unguard",), R), (("guard", 2, 0), R), (("jump", 0),), (("move", 2, 3), ("tail", 2, 3))):
            self.keeps(of(R, *rest))
        self.keeps(of(("jump", 2), ("jump", 2), R), of(("switch", 0, (), None), ("return", 2)), of(("raise", 0), ("return", 2)), of(("tail", 0, 1), ("return", 2)))
        self.keeps(of(R) + of(R, ("return", 3)))
        self.breaks(of(R) + of(("return", 3)))

    def test_random_code(self):
        counts = {True: 0, False: 0}
        for seed in range(6000):
            code = random_code(random.Random(seed))
            self.assertEqual(is_sound(code), sound(code), (seed, code))
            counts[sound(code)] += 1
        self.assertGreater(min(counts.values()), 300)

    def test_many_slots_and_instructions(self):
        row = tuple(("int", k, k) for k in range(2, 2000)) + (("tuple", 2, tuple(range(2000))), ("return", 2))
        self.assertTrue(is_sound(((2000, row),)))
        self.assertFalse(is_sound(((1999, row),)))
        self.assertFalse(is_sound(((2001, row[:-2] + (("return", 2000),)),)))


if __name__ == "__main__":
    unittest.main()
