"""What is code, and code as a text (points 111 to 113)."""

import random
import unittest

from codes import ALL, HEAD, TEXT, WRONG_LINES, random_code
from guanaco.assembly import read_code, write_code
from guanaco.errors import CodeError, GuanacoError
from guanaco.instructions import PARTS, is_code

SMALL = ((2, (("return", 1),)),)


def with_row(*row, slots=4):
    return ((slots, row),)


class Texts(unittest.TestCase):
    def refuses(self, text):
        with self.assertRaises(CodeError, msg=text) as caught:
            read_code(text)
        self.assertIs(type(caught.exception), CodeError)

    def test_each_instruction(self):
        self.assertEqual({instruction[0] for _, row in ALL for instruction in row}, set(PARTS))
        self.assertEqual(write_code(ALL), TEXT)
        self.assertEqual(read_code(TEXT), ALL)

    def test_one_function(self):
        self.assertEqual(write_code(SMALL), "function 0 slots 2\nreturn r1\n")
        self.assertEqual(read_code("function 0 slots 2\nreturn r1\n"), SMALL)

    def test_lines_that_are_none(self):
        for line in WRONG_LINES:
            self.refuses(HEAD + "return r0\n" + line + "\n")
            self.refuses(HEAD + line + "\nreturn r0\n")

    def test_functions_that_are_none(self):
        for text in ("", "\n", "return r0\n", "function 0 slots 2\n", "function 0 slots 2", "function 0 slots 2\nreturn r1",
                     "function 0 slots 2\nreturn r1\n\n", "\nfunction 0 slots 2\nreturn r1\n", "function 0 slots 1\nreturn r1\n",
                     "function 0 slots 0\nreturn r1\n", "function 0 slots -2\nreturn r1\n", "function 1 slots 2\nreturn r1\n",
                     "function 0 slots 02\nreturn r1\n", "function 00 slots 2\nreturn r1\n", "function 0  slots 2\nreturn r1\n",
                     "function 0 slots 2 return r1\n", "function 0 slots r2\nreturn r1\n", "Function 0 slots 2\nreturn r1\n",
                     "function 0 slots 1000000000000000000\nreturn r1\n", TEXT + TEXT, TEXT[:-1], TEXT + " ", TEXT.replace("function 1", "function 2"),
                     "function 0 slots 2\nfunction 1 slots 2\nreturn r1\n", "function 1 slots 2\nreturn r1\nfunction 0 slots 2\nreturn r1\n"):
            self.refuses(text)
        self.assertEqual(read_code("function 0 slots 999999999999999999\nreturn r999999999999999998\n")[0][0], 999999999999999999)

    def test_it_need_not_be_sound(self):
        for row in ((("return", 100),), (("jump", 7),), (("unguard",),), (("prim", 0, "foo", ()),), (("prim", 0, "plus", (0, 0, 0)),), (("close", 0, 9, 0),)):
            self.assertEqual(read_code(write_code(with_row(*row))), with_row(*row))

    def test_characters_at_all_places(self):
        """A text in which a character is replaced, left out or put in is refused, or is the text of what is read."""
        kept = 0
        for at in range(len(TEXT) + 1):
            signs = " \n-\"\\0129rs@#:,()[]TFax"
            texts = [TEXT[:at] + TEXT[at + 1:]] + [TEXT[:at] + sign + TEXT[at:] for sign in signs] + [TEXT[:at] + sign + TEXT[at + 1:] for sign in signs]
            for text in texts:
                try:
                    found = read_code(text)
                except GuanacoError as error:
                    self.assertIs(type(error), CodeError)
                    continue
                kept += 1
                self.assertTrue(is_code(found))
                self.assertEqual(write_code(found), text)
        self.assertGreater(kept, 500)

    def test_random_code(self):
        for seed in range(300):
            code = random_code(random.Random(seed))
            self.assertTrue(is_code(code))
            self.assertEqual(read_code(write_code(code)), code)


class Form(unittest.TestCase):
    def test_code(self):
        self.assertTrue(is_code(ALL))
        for thing in ((), (2, (("return", 0),)), ((2, ()),), ((1, (("return", 0),)),), ((True, (("return", 0),)),), "code", None, 5, ((2, (("return", 0),), 3),),
                      ((2, ("return", 0)),), ((2, [("return", 0)]),), (("2", (("return", 0),)),), ((2, (("return", 0), None)),), ((None, (("return", 0),)),)):
            self.assertFalse(is_code(thing), thing)

    def test_instructions(self):
        for instruction in (
                (), ("return",), ("return", 0, 0), ("return", -1), ("return", None), ("return", True), ("return", "0"), ("Return", 0), (0, 0), (("return",), 0),
                ("int", 0, "5"), ("int", 0, None), ("int", 0, True), ("int", 0), ("string", 0, 5), ("string", 0, None), ("tag", 0, -1), ("tag", 0, False),
                ("prim", 0, "plus", [0]), ("prim", 0, "", (0,)), ("prim", 0, "a b", (0,)), ("prim", 0, 5, (0,)), ("prim", 0, "plus", (None,)), ("prim", 0, "plus", 0),
                ("tuple", 0, ()), ("tuple", 0, (-1,)), ("tuple", 0, None), ("part", 0, -1, 0), ("make", 0, -1, 0), ("make", 0, 0, None), ("fresh", 0, -1),
                ("pack", 0, None, 0), ("pack", 0, 0, -1), ("pack", 0, 0, False), ("close", 0, -1, 0), ("call", 0, 0), ("jump", None), ("guard", 0, None),
                ("switch", 0, ((0, 0), (0, 0)), None), ("switch", 0, ((1, 0), (0, 0)), None), ("switch", 0, ((-1, 0),), None), ("switch", 0, (("a", 0),), None),
                ("switch", 0, ((0, None),), None), ("switch", 0, ((0,),), None), ("switch", 0, (0,), None), ("switch", 0, None, None), ("switch", 0, (), -1),
                ("switch", 0, ((True, 0),), None), ("switch", 0, 5, None), ("switch", 0, "ab", None), ("choose", 0, 5, 0), ("choose", 0, True, 0), ("prim", 0, "PLUS", (0,)),
                ("prim", 0, "pl1", (0,)), ("prim", 0, "pl\u00e9", (0,)), ("choose", 0, ((0, 0), (0, 0)), 0), ("choose", 0, (("a", 0), (0, 0)), 0), ("choose", 0, ((None, 0),), 0),
                ("choose", 0, ((True, 0),), 0), ("choose", 0, (), None), ("choose", 0, ((0, 0, 0),), 0), ("unguard", 0), ("same", 0, 0, None)):
            self.assertFalse(is_code(with_row(instruction, ("return", 0))), instruction)
        for instruction in (("switch", 0, (), None), ("choose", 0, ((3, 0), (-3, 0)), 9), ("prim", 0, "plus", ()), ("int", 0, 10 ** 18), ("pack", 0, 0, None)):
            self.assertTrue(is_code(with_row(instruction)), instruction)


if __name__ == "__main__":
    unittest.main()
