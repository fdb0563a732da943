"""The machine (points 122 to 126)."""

import random
import unittest

from codes import random_code
from cores import BOOL, DATA, EXN, INT, STRING, T, UNIT, fun, held, listed
from guanaco.checker import check
from guanaco.closures import convert, run_functions
from guanaco.elaborate import elaborate
from guanaco.emitter import emit
from guanaco.errors import CheckError
from guanaco.inspect import is_sound
from guanaco.machine import run_code, trace
from guanaco.normal import normalize
from guanaco.optimizer import optimize
from guanaco.parser import parse
from machine_model import Model
from programs import Writer
from random_units import Maker
from running import DONE, FULL, MORE, STUCK, agree
from test_elaborate import PROGRAMS
from units import BLOCKS, i, of

EMPTY = ((), DATA, ())
# Values that are needed in many frames while others are made, changed and left by exceptions.
DEEP = (
    "exception E of int list val r = (ref [] : int list ref) fun f n = if n = 0 then raise E [] else let val a = [n] val s = ref a val b = f (n - 1) handle E l => "
    "if n mod 3 = 0 then n :: l else raise E (n :: l) val _ = (s := b; r := a) in case !s of x :: y => x :: a | [] => a end val x = f 20 val y = f 7 handle E l => l val z = !r",
    "fun f n = if n = 0 then [] else let val a = digits n val l = f (n - 1) val b = a ^ digits n in (n, b) :: (n, a) :: l end fun g n = if n = 0 then [] else f n :: g (n - 1) val x = g 9",
    "val r = ref (fn n => [n + 0]) fun f n = if n < 3 then [n] else let val a = (!r) (n - 1) val _ = r := (fn m => f m) val b = (!r) (n - 2) in n :: (case a of x :: _ => x :: b | [] => b) end val x = f 9",
)
R = ("return", 2)
SAY = (("string", 3, "a"), ("prim", 3, "print", (3,)))
NO = ("tag", 2, 0)


def show(ty, exceptions=()):
    return ((("v", ((), ty), "v.0", (), ty),), DATA, exceptions)


def code(*row, others=()):
    """Function 0 with five slots and these instructions, and other functions, which are rows."""
    return ((5, row),) + tuple((5, other) for other in others)


def value(row, ty, young=10, limit=10, others=(), exceptions=(), fuel=100):
    """The value tree of slot 2 behind instructions, or the end."""
    whole = code(*row, ("tuple", 2, (2,)), R, others=others)
    end = run_code(whole, show(ty, exceptions), fuel, young, limit)[1]
    return end[1][0][1] if end[0] == "done" else end


class Instructions(unittest.TestCase):
    def test_results(self):
        for row, ty, wanted in (
                ((("int", 2, -5),), INT, i(-5)), ((("int", 2, 10 ** 17),), INT, i(10 ** 17)), ((("string", 2, "a\"\n"),), STRING, ("string", "a\"\n")),
                ((("tag", 2, 1),), BOOL, ("con", "True", None)), ((("tag", 2, 0),), UNIT, ("tuple", ())), ((("int", 3, 4), ("move", 2, 3)), INT, i(4)),
                ((("int", 2, 4), ("tuple", 2, (2, 2, 0))), ("tuple", (INT, INT, UNIT)), ("tuple", (i(4), i(4), ("tuple", ())))),
                ((("int", 2, 4), ("tuple", 2, (0, 2)), ("part", 2, 1, 2)), INT, i(4)), ((("int", 2, 4), ("make", 2, 1, 2)), T, ("con", "I", i(4))),
                ((("int", 2, 4), ("make", 2, 1, 2), ("arg", 2, 2)), INT, i(4)), ((("fresh", 2, 0), ("fresh", 2, 0)), INT, i(5)),
                ((("int", 2, 2), ("pack", 2, 2, None)), EXN, ("exn", "Size", None)), ((("fresh", 2, 1), ("int", 3, 9), ("pack", 2, 2, 3)), EXN, ("exn", "F", i(9))),
                ((("fresh", 2, 1), ("int", 3, 9), ("pack", 2, 2, 3), ("arg", 2, 2)), INT, i(9)), ((("close", 2, 0, 0),), fun(INT, INT), ("fn",)),
                ((("int", 2, 1), ("jump", 3), ("int", 2, 5)), INT, i(1)), ((("int", 2, 3), ("prim", 2, "ref", (2,))), held(INT), ("ref", i(3)))):
            self.assertEqual(value(row, ty, exceptions=(("E", None), ("F", INT))), wanted, row)

    def test_calls(self):
        pair = (("tuple", 2, (0, 1)), R)
        row = (("int", 2, 1), ("close", 3, 1, 2), ("int", 4, 2), ("call", 2, 3, 4))
        self.assertEqual(value(row, ("tuple", (INT, INT)), others=(pair,)), ("tuple", (i(1), i(2))))
        chain = ((("close", 2, 2, 1), ("tail", 2, 0)), pair)
        self.assertEqual(value(row, ("tuple", (INT, INT)), others=chain), ("tuple", (i(2), i(1))))
        whole = code(("close", 2, 1, 0), ("tail", 2, 0), others=((("tuple", 2, (1,)), R),))
        self.assertEqual(run_code(whole, show(UNIT), 1, 1, 1), ((), ("done", (("v", ("tuple", ())),))))
        self.assertEqual(run_code(code(("return", 1)), EMPTY, 0, 1, 1), ((), DONE))
        self.assertEqual(run_code(code(("return", 0)), EMPTY, 0, 1, 1), ((), DONE))

    def test_selections(self):
        def by(selector, make, rest, ty=INT):
            row = (*make, selector, ("int", 2, 10), R, ("int", 2, 20), R, ("int", 2, 30), R)
            whole = code(("close", 2, 1, 0), ("call", 2, 2, 0), ("tuple", 2, (2,)), R, others=(row,))
            end = run_code(whole, show(ty), 100, 2, 2)[1]
            self.assertEqual(end[1][0][1] if end[0] == "done" else end, rest, (selector, make))
        for k, wanted in ((0, i(10)), (1, i(20)), (2, i(20)), (3, i(30)), (9, i(30))):
            by(("switch", 2, ((0, 2), (1, 4), (2, 4)), 6), (("tag", 2, k),), wanted)
        for k, wanted in ((0, i(10)), (1, i(20)), (2, i(30))):
            by(("switch", 2, ((0, 3), (1, 5)), 7), (("int", 2, 0), ("make", 2, k, 2)), wanted)
        by(("switch", 2, ((0, 2), (2, 4)), None), (("tag", 2, 2),), i(20))
        by(("switch", 2, ((0, 2), (2, 4)), None), (("tag", 2, 1),), STUCK)
        by(("switch", 2, (), None), (("tag", 2, 1),), STUCK)
        by(("switch", 2, (), 4), (("tag", 2, 1),), i(20))
        for k, wanted in ((7, i(10)), (-7, i(20)), (0, i(30))):
            by(("choose", 2, ((7, 2), (-7, 4)), 6), (("int", 2, k),), wanted)
        for text, wanted in (("b", i(10)), ("", i(20)), ("a", i(30)), ("bb", i(30))):
            by(("choose", 2, (("b", 2), ("", 4)), 6), (("string", 2, text),), wanted)
        by(("choose", 2, (), 4), (("string", 2, ""),), i(20))
        by(("choose", 2, (), 4), (("int", 2, 1),), i(20))
        packed = (("int", 2, 1), ("pack", 3, 2, None))
        by(("same", 3, 2, 5), packed, i(20))
        by(("same", 3, 2, 6), (*packed, ("int", 2, 2)), i(10))
        by(("same", 3, 2, 6), (*packed, ("int", 2, 99)), i(10))
        by(("same", 3, 4, 8), (*packed, ("fresh", 4, 0), ("pack", 3, 4, None), ("move", 2, 4)), i(20))

    def test_primitives(self):
        for op, words, wanted, ty in (
                ("plus", (3, 4), i(7), INT), ("minus", (3, 4), i(-1), INT), ("times", (3, 4), i(12), INT), ("quotient", (-7, 2), i(-4), INT),
                ("remainder", (-7, 2), i(1), INT), ("negate", (3,), i(-3), INT), ("equal", (3, 3), "True", BOOL), ("unequal", (3, 3), "False", BOOL),
                ("less", (3, 4), "True", BOOL), ("atmost", (4, 4), "True", BOOL), ("greater", (3, 4), "False", BOOL), ("atleast", (3, 4), "False", BOOL),
                ("concat", ("a", "b"), ("string", "ab"), STRING), ("size", ("abc",), i(3), INT), ("code", ("ab", 1), i(98), INT), ("same", ("a", "a"), "True", BOOL),
                ("same", ("a", "b"), "False", BOOL), ("digits", (-12,), ("string", "~12"), STRING), ("ref", (3,), ("ref", i(3)), held(INT)),
                ("print", ("a",), ("tuple", ()), UNIT), ("plus", (2000000000, 1), "Overflow", INT), ("times", (-2000000000, 2), "Overflow", INT),
                ("quotient", (1, 0), "Div", INT), ("remainder", (1, 0), "Div", INT), ("concat", ("a" * 200, "b"), "Size", STRING), ("code", ("ab", 2), "Subscript", INT),
                ("code", ("ab", -1), "Subscript", INT), ("concat", ("a" * 199, "b"), ("string", "a" * 199 + "b"), STRING)):
            row = tuple(("string" if isinstance(word, str) else "int", 2 + k, word) for k, word in enumerate(words))
            row += (("prim", 2, op, tuple(range(2, 2 + len(words)))),)
            if wanted in ("Overflow", "Div", "Size", "Subscript"):
                wanted = ("raised", wanted, None)
            elif isinstance(wanted, str):
                wanted = ("con", wanted, None)
            for young in (1, 2, 3, 9):
                self.assertEqual(value(row, ty, young=young), wanted, op)
        row = (("int", 2, 1), ("prim", 3, "ref", (2,)), ("int", 2, 5), ("prim", 4, "assign", (3, 2)), ("tuple", 2, (3, 4)))
        self.assertEqual(value(row, ("tuple", (held(INT), UNIT))), ("tuple", (("ref", i(5)), ("tuple", ()))))
        self.assertEqual(value((*row[:4], ("prim", 2, "get", (3,))), INT), i(5))

    def test_values_of_other_kinds(self):
        """Each use of slot 2, with each kind of value in it."""
        makers = {
            "int": (("int", 2, 1),), "string": (("string", 2, "ab"),), "tag": (("tag", 2, 1),), "tuple": (("tuple", 2, (0, 1)),), "make": (("make", 2, 1, 0),),
            "bare": (("int", 2, 1), ("pack", 2, 2, None)), "pack": (("fresh", 2, 0), ("pack", 2, 2, 0)), "close": (("close", 2, 1, 0),),
            "ref": (("prim", 2, "ref", (0,)),),
        }
        first = (("int", 4, 1), ("pack", 3, 4, None))
        uses = {
            ("int",): [("prim", 2, op, (2, 4)) for op in ("plus", "less", "quotient")] + [("prim", 2, op, (4, 2)) for op in ("minus", "equal")]
            + [("prim", 2, op, (2,)) for op in ("negate", "digits")] + [("pack", 2, 2, 0), ("pack", 2, 2, None), ("same", 3, 2, 0)],
            ("string",): [("prim", 2, "concat", (2, 2)), ("prim", 2, "size", (2,)), ("prim", 2, "code", (2, 4)), ("prim", 2, "same", (2, 2)), ("prim", 2, "print", (2,))],
            ("ref",): [("prim", 2, "get", (2,)), ("prim", 2, "assign", (2, 2))], ("tuple",): [("part", 2, 1, 2)], ("make", "pack"): [("arg", 2, 2)],
            ("close",): [("call", 2, 2, 0), ("tail", 2, 0)], ("tag", "make"): [("switch", 2, ((0, 0),), 0), ("switch", 2, ((1, 0),), None)],
            ("pack", "bare"): [("same", 2, 4, 0), ("raise", 2)],
            ("int", "string"): [("choose", 2, (), 0)],
        }
        uses[("int",)].append(("choose", 2, ((1, 0),), 0))
        uses[("string",)].append(("choose", 2, (("b", 0),), 0))
        for fitting, instructions in uses.items():
            for instruction in instructions:
                for kind, maker in makers.items():
                    target = len(first) + len(maker) + len(SAY) + 1
                    move = {"switch": lambda w: (*w[:2], tuple((k, target) for k, _ in w[2]), None if w[3] is None else target),
                            "choose": lambda w: (*w[:2], tuple((k, target) for k, _ in w[2]), target), "same": lambda w: (*w[:3], target)}
                    use = move.get(instruction[0], lambda w: w)(instruction)
                    whole = code(*first[:1], *SAY, first[1], *maker, use, ("return", 0), others=((("return", 0),),))
                    self.assertTrue(is_sound(whole), whole)
                    outputs, end = run_code(whole, ((), DATA, (("F", UNIT),)), 9, 2, 2)
                    self.assertEqual(outputs[:1], ("a",))
                    if kind in fitting:
                        self.assertEqual(end[0], "raised" if instruction[0] == "raise" else "done", (kind, instruction))
                    else:
                        self.assertEqual(end, STUCK, (kind, instruction))

    def test_numbers_that_do_not_fit(self):
        for row in ((("tuple", 2, (0, 1)), ("part", 2, 2, 2)), (("int", 2, 4), ("pack", 2, 2, None)), (("int", 2, -1), ("pack", 2, 2, None)),
                    (("fresh", 2, 0), ("int", 2, 5), ("pack", 2, 2, 0)), (("tag", 2, 0), ("part", 2, 0, 2)), (("tag", 2, 0), ("arg", 2, 2))):
            self.assertEqual(run_code(code(*row, ("return", 0)), EMPTY, 9, 2, 2), ((), STUCK), row)

    def test_what_is_shown(self):
        """Each end with a value that has not the type that is shown is stuck."""
        for row, ty in (((("int", 2, 1),), STRING), ((("tag", 2, 0),), INT), ((("tag", 2, 2),), BOOL), ((("tag", 2, 1),), UNIT), ((("string", 2, "a"),), INT),
                        ((("int", 2, 1),), fun(INT, INT)), ((("close", 2, 0, 0),), INT), ((("tuple", 2, (0, 0)),), ("tuple", (UNIT, UNIT, UNIT))),
                        ((("tuple", 2, (0, 0)),), ("tuple", (UNIT, INT))), ((("make", 2, 0, 0),), listed(INT)), ((("tag", 2, 1),), listed(INT)),
                        ((("make", 2, 1, 0),), T), ((("int", 2, 1), ("pack", 2, 2, 0)), EXN), ((("tag", 2, 0),), EXN), ((("prim", 2, "ref", (0,)),), held(INT))):
            self.assertEqual(value(row, ty), STUCK, (row, ty))
        for row in ((("return", 0),), (("int", 2, 1), R), (("tuple", 2, (0, 0)), R), (("make", 2, 0, 0), R), (("close", 2, 0, 0), R), (("prim", 2, "ref", (0,)), R),
                    (("int", 2, 1), ("pack", 2, 2, 0), R), (("string", 2, ""), R)):
            self.assertEqual(run_code(code(*row), show(UNIT), 9, 2, 2)[1], STUCK)
        for ty in (("var", "a"), ("con", "missing.9", ())):
            self.assertEqual(value((("tag", 2, 0),), ty), STUCK)
        for row in ((("tag", 2, 1), R), (("int", 2, 0), R), (("tuple", 2, (0,)), R)):
            self.assertEqual(run_code(code(*row), EMPTY, 9, 2, 2)[1], STUCK)
        row = (("fresh", 2, 1), ("int", 3, 9), ("pack", 2, 2, 3), ("raise", 2))
        for exceptions, end in (((("E", None), ("F", INT)), ("raised", "F", i(9))), ((("E", None), ("F", None)), STUCK), ((("E", None), ("F", STRING)), STUCK)):
            self.assertEqual(run_code(code(*row), ((), DATA, exceptions), 9, 1, 1), ((), end))

    def test_what_references_hold_at_the_end(self):
        row = (("int", 2, 1), ("prim", 3, "ref", (2,)), ("tuple", 4, (3, 3)), ("int", 2, 7), ("prim", 2, "assign", (3, 2)), ("move", 2, 4))
        self.assertEqual(value(row, ("tuple", (held(INT), held(INT))), young=1, limit=1), ("tuple", (("ref", i(7)), ("ref", i(7)))))


class Guards(unittest.TestCase):
    def test_guards(self):
        caught = (("guard", 3, 5), ("int", 2, 0), ("prim", 2, "quotient", (2, 2)), ("unguard",), ("jump", 6), ("move", 2, 3))
        self.assertEqual(value(caught, EXN), ("exn", "Div", None))
        self.assertEqual(value((("guard", 3, 5), ("int", 2, 6), ("prim", 2, "quotient", (2, 2)), ("unguard",), ("jump", 6), ("int", 2, 5)), INT), i(1))

    def test_the_last_guard_takes(self):
        row = (("guard", 2, 6), ("guard", 2, 5), ("int", 3, 1), ("pack", 3, 3, None), ("raise", 3), ("raise", 2), ("tuple", 2, (2,)), R)
        self.assertEqual(run_code(code(*row), show(EXN), 0, 9, 9), ((), ("done", (("v", ("exn", "Div", None)),))))
        row = (("guard", 2, 8), ("guard", 3, 6), ("unguard",), ("int", 4, 1), ("pack", 4, 4, None), ("raise", 4), ("int", 4, 3), ("raise", 3), ("tuple", 2, (2,)), R)
        self.assertTrue(is_sound(code(*row)))
        self.assertEqual(run_code(code(*row), show(EXN), 0, 9, 9), ((), ("done", (("v", ("exn", "Div", None)),))))

    def test_guards_across_calls(self):
        """A guard takes what functions raise that its function calls, and frames of these are gone."""
        thrower = (("pack", 2, 1, None), ("raise", 2))
        middle = (("close", 2, 2, 0), ("call", 2, 2, 1), R)
        main = (("int", 4, 3), ("guard", 2, 6), ("close", 3, 1, 0), ("call", 3, 3, 4), ("unguard",), ("return", 3), ("tuple", 2, (2, 4)), ("tuple", 2, (2,)), R)
        for young in (1, 2, 9):
            self.assertEqual(run_code(code(*main, others=(middle, thrower)), show(("tuple", (EXN, INT))), 9, young, 1),
                             ((), ("done", (("v", ("tuple", (("exn", "Subscript", None), i(3)))),))))
        inner = (("guard", 2, 5), ("close", 3, 2, 0), ("call", 3, 3, 1), ("unguard",), ("return", 3), ("int", 2, 77), R)
        main = (("int", 4, 3), ("guard", 2, 6), ("close", 3, 1, 0), ("call", 2, 3, 4), ("unguard",), ("jump", 6), ("tuple", 2, (2,)), R)
        self.assertEqual(run_code(code(*main, others=(inner, thrower)), show(INT), 9, 1, 1), ((), ("done", (("v", i(77)),))))

    def test_an_ended_guard_takes_nothing(self):
        main = (("guard", 2, 3), ("unguard",), ("int", 3, 1), ("int", 3, 1), ("pack", 2, 3, None), ("raise", 2))
        self.assertEqual(run_code(code(*main), EMPTY, 9, 1, 1), ((), ("raised", "Div", None)))
        self.assertEqual(trace(code(*main), 9, 1, 1), (6, 0, 0, 1, 0))

    def test_without_a_guard(self):
        for young in (1, 2):
            whole = code(("string", 2, "x"), ("int", 3, 1), ("int", 4, 0), ("prim", 3, "quotient", (3, 4)), R)
            self.assertEqual(run_code(whole, EMPTY, 1, young, 1), ((), ("raised", "Div", None)))
            self.assertEqual(trace(whole, 1, young, 1), (4, 2 - young, 0, 2, 2 - young))

    def test_a_guard_of_the_young_area_of_one(self):
        """The exception value is made while all frames are there: their values are roots."""
        inner = (("string", 2, "b"), ("int", 3, 1), ("int", 4, 0), ("prim", 3, "quotient", (3, 4)), R)
        main = (("string", 4, "a"), ("guard", 2, 6), ("close", 3, 1, 0), ("call", 3, 3, 0), ("unguard",), ("return", 3), ("tuple", 2, (2, 4)), ("tuple", 2, (2,)), R)
        whole = code(*main, others=(inner,))
        self.assertEqual(run_code(whole, show(("tuple", (EXN, STRING))), 9, 1, 99), ((), ("done", (("v", ("tuple", (("exn", "Div", None), ("string", "a")))),))))
        self.assertEqual(trace(whole, 9, 1, 99), (11, 5, 0, 6, 5))
        self.assertEqual(trace(whole, 2, 1, 99), (11, 5, 0, 6, 5))
        self.assertEqual(trace(whole, 1, 1, 99), (8, 2, 0, 3, 2))


class Bounds(unittest.TestCase):
    def count(self, body, times):
        """Code that goes times through instructions with the slots 2 and 3, and says so at its end."""
        row = (*body, ("int", 2, 1), ("prim", 2, "minus", (1, 2)), ("choose", 2, ((0, len(body) + 6),), len(body) + 3), ("close", 3, 1, 0), ("jump", len(body) + 5),
               ("tail", 3, 2), ("tag", 2, 0), R)
        return code(("close", 2, 1, 0), ("int", 3, times), ("tail", 2, 3), others=(row,))

    def test_references(self):
        for times, end in ((1000, DONE), (1001, FULL)):
            self.assertEqual(run_code(self.count((("prim", 2, "ref", (0,)),), times), EMPTY, 400000, 7, 3), ((), end))

    def test_strings(self):
        for times, end in ((200, DONE), (201, FULL)):
            self.assertEqual(run_code(self.count(SAY, times), EMPTY, 400000, 7, 3), (("a",) * 200, end))

    def nested(self, times, last=("return", 0)):
        """Function 1 calls itself so often, and then does the last instruction."""
        row = (("choose", 1, ((0, 6),), 1), ("int", 2, 1), ("prim", 2, "minus", (1, 2)), ("close", 3, 1, 0), ("call", 2, 3, 2), ("return", 0), last, ("return", 0))
        return code(("close", 2, 1, 0), ("int", 3, times), ("call", 2, 2, 3), ("return", 0), others=(row,))

    def test_frames(self):
        """Frame 1 is that of function 0, frame 2 that of the first call."""
        for young in (1, 5000):
            self.assertEqual(run_code(self.nested(2998), EMPTY, 400000, young, 1), ((), DONE))
            self.assertEqual(run_code(self.nested(2999), EMPTY, 400000, young, 1), ((), FULL))
        self.assertEqual(run_code(self.nested(2998, ("tail", 0, 1)), EMPTY, 400000, 9, 9)[1], STUCK)
        self.assertEqual(run_code(self.nested(2998, ("call", 2, 0, 1)), EMPTY, 400000, 9, 9)[1], STUCK)

    def test_tails_need_no_frames(self):
        self.assertEqual(run_code(self.count((), 9000), EMPTY, 400000, 9, 9), ((), DONE))

    def long_list(self, length):
        """A chain of objects in one slot."""
        return code(("close", 2, 1, 0), ("tag", 3, 0), ("int", 4, length), ("tuple", 3, (3, 4)), ("tail", 2, 3), others=((
            ("part", 2, 1, 1), ("part", 3, 0, 1), ("make", 3, 0, 3), ("int", 4, 1), ("prim", 2, "minus", (2, 4)), ("choose", 2, ((0, 10),), 7),
            ("return", 0), ("tuple", 2, (3, 2)), ("close", 3, 1, 0), ("tail", 3, 2), ("tag", 2, 0), R),))

    def test_old_objects(self):
        """With a young area of one object each object is old as soon as the next one is made."""
        def chain(count):
            row = [("string", 2, "a")]
            for k in range(count - 1):
                row.append(("make", 2, 0, 2))
            return code(*row, ("return", 0))
        for count, end in ((4000, DONE), (4001, DONE), (4002, FULL), (4003, FULL)):
            for limit in (1, 4000, 100000):
                self.assertEqual(run_code(chain(count), EMPTY, 0, 1, limit), ((), end), (count, limit))
        self.assertEqual(trace(chain(4002), 0, 1, 100000), (4002, 4001, 0, 4001, 4001))
        self.assertEqual(trace(chain(4001), 0, 1, 4000), (4002, 4000, 0, 4001, 4000))
        self.assertEqual(trace(chain(4002), 0, 1, 4000), (4002, 4001, 1, 4001, 4001))
        self.assertEqual(run_code(self.long_list(3000), EMPTY, 400000, 1, 100000)[1], FULL)
        self.assertEqual(run_code(self.long_list(3000), EMPTY, 400000, 1, 50)[1], DONE)

    def test_more_than_4000_behind_a_major_collection(self):
        """Old objects that a major collection removes do not count."""
        row = [("string", 2, "a")] * 9000 + [R]
        self.assertEqual(run_code(code(*row[:-1], ("return", 0)), EMPTY, 0, 1, 4000)[1], DONE)
        self.assertEqual(run_code(code(*row[:-1], ("return", 0)), EMPTY, 0, 1, 4001)[1], FULL)

    def test_many_slots(self):
        whole = ((10 ** 17, (("int", 10 ** 17 - 1, 5), ("string", 3, "a"), ("string", 2, "b"), ("return", 0))),)
        self.assertEqual(run_code(whole, EMPTY, 0, 1, 1), ((), DONE))


class Fuel(unittest.TestCase):
    def test_steps(self):
        one = (("return", 1),)
        for row, steps in (((("int", 2, 1), ("prim", 2, "negate", (2,)), ("return", 0)), 1), ((("close", 2, 1, 0), ("call", 2, 2, 0), R), 1),
                           ((("close", 2, 1, 0), ("tail", 2, 0)), 1), ((("tuple", 2, (0,)), ("part", 2, 0, 2), ("make", 2, 0, 2), ("arg", 2, 2), ("return", 0)), 0),
                           ((("string", 2, "a"), ("return", 0)), 0),
                           ((("close", 2, 1, 0), ("call", 3, 2, 0), ("call", 3, 2, 0), ("tail", 2, 0)), 3)):
            self.assertEqual(run_code(code(*row, others=(one,)), EMPTY, steps, 1, 1), ((), DONE), row)
            if steps:
                self.assertEqual(run_code(code(*row, others=(one,)), EMPTY, steps - 1, 1, 1), ((), MORE), row)

    def test_fuel_comes_before_kinds(self):
        for row in ((("prim", 2, "plus", (0, 1)), R), (("prim", 2, "print", (0,)), R), (("call", 2, 0, 1), R), (("tail", 0, 1),), (("prim", 2, "get", (0,)), R),
                    (("int", 2, 0), ("prim", 2, "quotient", (2, 2)), R)):
            self.assertEqual(run_code(code(*row), EMPTY, 0, 1, 1), ((), MORE))
            self.assertNotEqual(run_code(code(*row), EMPTY, 1, 1, 1), ((), MORE))
        self.assertEqual(run_code(code(("raise", 0)), EMPTY, 0, 1, 1), ((), STUCK))

    def full_heap(self, row, last, length=4001):
        """Instructions, a chain of objects of a length, and an instruction."""
        fill = [("string", 2, "a")] + [("make", 2, 0, 2)] * (length - 1)
        return code(*row, *fill, last, ("return", 0))

    def test_fuel_and_kinds_come_before_the_heap(self):
        ahead = (("int", 3, 0), ("prim", 4, "negate", (3,)))
        for last, wanted in ((("prim", 3, "concat", (2, 2)), STUCK), (("prim", 3, "digits", (0,)), STUCK), (("prim", 3, "quotient", (2, 3)), STUCK),
                             (("pack", 3, 2, None), STUCK), (("prim", 3, "ref", (2,)), FULL), (("prim", 3, "digits", (3,)), FULL),
                             (("prim", 3, "quotient", (3, 3)), FULL), (("string", 3, ""), FULL), (("tuple", 3, (3,)), FULL), (("make", 3, 0, 3), FULL),
                             (("pack", 3, 3, None), FULL), (("close", 3, 0, 0), FULL), (("prim", 3, "negate", (3,)), DONE), (("int", 3, 1), DONE)):
            whole = self.full_heap(ahead, last)
            self.assertEqual(run_code(whole, EMPTY, 2, 1, 9), ((), wanted), last)
            if last[0] == "prim":
                self.assertEqual(run_code(whole, EMPTY, 1, 1, 9), ((), MORE), last)

    def test_references_and_strings_come_before_the_heap(self):
        """The collection of which reference 1001 would be the cause is not done."""
        last = ("prim", 3, "ref", (2,))
        self.assertEqual(trace(self.full_heap((), last), 1, 1, 10 ** 5), (4002, 4001, 0, 4001, 4001))
        for count, minors in ((999, 4999), (1000, 4999)):
            whole = self.full_heap([("prim", 3, "ref", (0,))] * count, last, 4000)
            self.assertEqual(run_code(whole, EMPTY, 2000, 1, 3500), ((), FULL))
            self.assertEqual(run_code(whole, EMPTY, count, 1, 3500), ((), MORE))
            self.assertEqual(trace(whole, 2000, 1, 3500), (count + 4001, minors, 1, count + 4000, minors))
        row = [("string", 4, "x")] + [("prim", 3, "print", (4,))] * 200
        self.assertEqual(run_code(code(*row, ("prim", 3, "print", (0,)), ("return", 0)), EMPTY, 900, 1, 1), (("x",) * 200, STUCK))
        self.assertEqual(run_code(code(*row, ("prim", 3, "print", (4,)), ("return", 0)), EMPTY, 900, 1, 1), (("x",) * 200, FULL))
        self.assertEqual(run_code(code(*row, ("prim", 3, "print", (4,)), ("return", 0)), EMPTY, 200, 1, 1), (("x",) * 200, MORE))

    def test_kinds_come_before_frames(self):
        """In frame 3000, a call of what is no closure is stuck, one of a closure is full, and one without fuel is neither."""
        def deep(last):
            row = (("choose", 1, ((0, 6),), 1), ("int", 2, 1), ("prim", 2, "minus", (1, 2)), ("close", 3, 1, 0), ("call", 2, 3, 2), ("return", 0),
                   ("close", 2, 1, 0), last, ("return", 0))
            return code(("close", 2, 1, 0), ("int", 3, 2998), ("call", 2, 2, 3), ("return", 0), others=(row,))
        for last, end in ((("call", 3, 0, 0), STUCK), (("call", 3, 2, 0), FULL)):
            self.assertEqual(run_code(deep(last), EMPTY, 2999 + 2998, 9, 9), ((), MORE))
            self.assertEqual(run_code(deep(last), EMPTY, 2999 + 2999, 9, 9), ((), end))


class Statistics(unittest.TestCase):
    def test_no_objects(self):
        self.assertEqual(trace(code(("return", 0)), 0, 1, 1), (1, 0, 0, 0, 0))
        self.assertEqual(trace(code(("int", 2, 1), ("jump", 2), ("prim", 2, "negate", (2,)), R), 9, 1, 1), (4, 0, 0, 0, 0))
        self.assertEqual(trace(code(("int", 2, 1), ("jump", 2), ("prim", 2, "negate", (2,)), R), 0, 1, 1), (3, 0, 0, 0, 0))

    def test_each_maker(self):
        for row, made in (((("string", 2, ""),), 1), ((("tuple", 2, (0,)),), 1), ((("make", 2, 0, 0),), 1), ((("close", 2, 0, 0),), 1),
                          ((("int", 2, 1), ("pack", 2, 2, None)), 1), ((("prim", 2, "ref", (0,)),), 1), ((("int", 2, 1), ("prim", 2, "digits", (2,))), 1),
                          ((("string", 2, ""), ("prim", 2, "concat", (2, 2))), 2), ((("prim", 2, "ref", (0,)), ("prim", 2, "get", (2,))), 1),
                          ((("prim", 2, "ref", (0,)), ("prim", 2, "assign", (2, 0))), 1), ((("string", 2, ""), ("prim", 2, "size", (2,)), ("fresh", 2, 0), ("move", 3, 2)), 1)):
            self.assertEqual(trace(code(*row, ("return", 0)), 9, 9, 9)[3], made, row)

    def test_minor_collections(self):
        row = (("string", 2, "a"), ("string", 3, "b"), ("string", 2, "c"), ("string", 4, "d"), ("return", 0))
        self.assertEqual(trace(code(*row), 0, 4, 9), (5, 0, 0, 4, 0))
        self.assertEqual(trace(code(*row), 0, 3, 9), (5, 1, 0, 4, 2))
        self.assertEqual(trace(code(*row), 0, 2, 9), (5, 1, 0, 4, 2))
        self.assertEqual(trace(code(*row), 0, 1, 9), (5, 3, 0, 4, 3))

    def test_major_collections(self):
        """With one young object and the limit 1: a is moved; b is moved, and both stay; c is moved, and a goes."""
        row = (("string", 2, "a"), ("string", 3, "b"), ("string", 2, "c"), ("string", 4, "d"), ("return", 0))
        self.assertEqual(trace(code(*row), 0, 1, 2), (5, 3, 1, 4, 3))
        self.assertEqual(trace(code(*row), 0, 1, 1), (5, 3, 1, 4, 3))
        self.assertEqual(trace(code(*row), 0, 1, 3), (5, 3, 0, 4, 3))

    def test_the_limit(self):
        """The limit becomes twice the number of what remains, but at least its first value."""
        row = (("string", 2, "a"),) * 9 + (("return", 0),)
        self.assertEqual(trace(code(*row), 0, 1, 1), (10, 8, 4, 9, 8))
        self.assertEqual(trace(code(*row), 0, 1, 3), (10, 8, 2, 9, 8))
        self.assertEqual(trace(code(*row), 0, 1, 7), (10, 8, 1, 9, 8))
        self.assertEqual(trace(code(*row), 0, 1, 8), (10, 8, 0, 9, 8))

    def test_values_are_read_again(self):
        row = (("string", 2, "a"), ("tuple", 3, (2, 2)), ("tuple", 3, (3, 2)), ("prim", 2, "ref", (3,)), ("prim", 4, "ref", (2,)), ("prim", 2, "assign", (2, 3)),
               ("tuple", 2, (4, 3)), ("make", 2, 0, 2), ("arg", 2, 2))
        ab = ("tuple", (("tuple", (("string", "a"),) * 2), ("string", "a")))
        ty = ("tuple", (("tuple", (STRING, STRING)), STRING))
        for young in (1, 2, 3, 4, 5):
            for limit in (1, 2, 3, 9):
                self.assertEqual(value(row, ("tuple", (held(held(ty)), ty)), young, limit), ("tuple", (("ref", ("ref", ab)), ab)))

    def test_remembered_objects(self):
        row = (("prim", 3, "ref", (0,)), ("string", 2, "a"), ("prim", 4, "assign", (3, 2)), ("tag", 2, 0), ("string", 4, "b"), ("prim", 2, "get", (3,)))
        for young in (1, 2, 3):
            self.assertEqual(value(row, STRING, young, 1), ("string", "a"))
        self.assertEqual(trace(code(*row, ("return", 0)), 9, 1, 9), (7, 2, 0, 3, 2))


class Agreement(unittest.TestCase):
    def check_code(self, whole, info, fuel, young, limit):
        model = Model(whole, fuel, young, limit)
        outputs, end = model.run()
        found = run_code(whole, info, fuel, young, limit)
        self.assertEqual(found[0], outputs)
        if end[0] in ("done", "raised"):
            self.assertIn(found[1][0], (end[0], "stuck"))
        else:
            self.assertEqual(found[1], end)
        self.assertEqual(trace(whole, fuel, young, limit), Model(whole, fuel, young, limit).statistics())

    def check_functions(self, unit, fuels, sizes):
        functions = convert(unit)
        whole = emit(functions)
        for fuel in fuels:
            wanted = run_functions(functions, unit[1], fuel)
            for young, limit in sizes:
                found = run_code(whole, unit[1], fuel, young, limit)
                self.assertTrue(agree(wanted, found), (fuel, young, limit, wanted, found))
                if found[1] in (MORE, STUCK):
                    self.assertEqual(wanted, found)

    SIZES = ((1, 1), (1, 60), (2, 3), (3, 2), (5, 10), (10, 1), (100, 7), (1000, 60))

    def test_units(self):
        for block, ty in BLOCKS.values():
            unit = of(block, ty)
            self.check_functions(unit, (0, 1, 2, 5, 100), [(young, limit) for young in (1, 2, 3, 7, 1000) for limit in (1, 2, 60)])

    def test_random_units(self):
        for seed in range(150):
            unit = Maker(random.Random(seed)).unit()
            for found in (unit, optimize(unit)):
                self.check_functions(found, (0, 3, 20, 500), self.SIZES)

    def test_programs(self):
        for text in PROGRAMS + DEEP:
            unit = normalize(elaborate(parse(text)))
            for found in (unit, optimize(unit)):
                self.check_functions(found, (0, 2, 7, 40, 2000), self.SIZES)

    def test_random_programs(self):
        for seed in range(40):
            tree = Writer(random.Random(seed)).program(4, 4)
            try:
                check(tree)
            except CheckError:
                continue
            unit = normalize(elaborate(tree))
            self.check_functions(unit, (0, 5, 50, 5000), self.SIZES)
            self.check_functions(optimize(unit), (0, 5, 50, 5000), self.SIZES)

    def test_the_model(self):
        """The machine does what a machine does that follows the words of the points."""
        wholes = [emit(convert(Maker(random.Random(seed)).unit())) for seed in range(60)]
        wholes += [emit(convert(normalize(elaborate(parse(text))))) for text in PROGRAMS + DEEP]
        for whole in wholes:
            for young, limit in self.SIZES[:6]:
                for fuel in (0, 9, 300, 1500):
                    self.check_code(whole, EMPTY, fuel, young, limit)

    def test_random_code(self):
        count = 0
        for seed in range(9000):
            whole = random_code(random.Random(seed))
            if is_sound(whole) and not endless(whole):
                count += 1
                for young, limit in ((1, 1), (2, 2), (3, 9)):
                    self.check_code(whole, EMPTY, 30, young, limit)
        self.assertGreater(count, 500)


def endless(whole):
    """Whether code may go on without steps."""
    return any(at <= k for _, row in whole for k, instruction in enumerate(row) for at in jumps(instruction))


def jumps(instruction):
    tag, *parts = instruction
    if tag in ("switch", "choose"):
        return [at for _, at in parts[1]] + ([parts[2]] if parts[2] is not None else [])
    return parts[-1:] if tag in ("jump", "same", "guard") else []


if __name__ == "__main__":
    unittest.main()
