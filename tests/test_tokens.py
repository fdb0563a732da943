"""Tokens (points 2, 3, 8 and 9)."""

import unittest

from guanaco.errors import LimitError, TokenError
from guanaco.tokens import read_tokens

WORDS = ("and andalso case datatype div else end exception fn fun functor handle if in let mod of open orelse "
         "raise sig signature struct structure then type val where").split()
SIGNS = "( ) [ ] , ; : :> = => -> | _ . * + - ^ :: < <= > >= <> := ! ~".split()


def plain(text):
    return [(kind, token) for kind, token, _ in read_tokens(text)]


class Kinds(unittest.TestCase):
    def test_empty_texts(self):
        for text in ("", " ", "\n \n", "(* a *)", "(**)", "(* (* *) *)\n"):
            self.assertEqual(read_tokens(text), [])

    def test_a_new_list_each_time(self):
        first = read_tokens("a")
        first.append(None)
        self.assertEqual(read_tokens("a"), [("low", "a", 0)])

    def test_words(self):
        for word in WORDS:
            self.assertEqual(read_tokens(word), [("word", word, 0)])
            self.assertEqual(read_tokens(word + "x"), [("low", word + "x", 0)])
            self.assertEqual(read_tokens(word + "'"), [("low", word + "'", 0)])
            self.assertEqual(plain(word.upper()), [("high", word.upper())])

    def test_signs(self):
        for sign in SIGNS:
            self.assertEqual(read_tokens(sign), [("sign", sign, 0)])

    def test_longest_sign(self):
        cases = {
            ":::": ["::", ":"], "::=": ["::", "="], ":=>": [":=", ">"], ":>=": [":>", "="], "=>=": ["=>", "="],
            "==>": ["=", "=>"], "-->": ["-", "->"], "->>": ["->", ">"], "<=>": ["<=", ">"], "<>=": ["<>", "="],
            "<<=": ["<", "<="], ">>=": [">", ">="], "~~": ["~", "~"], "!!": ["!", "!"], "*)": ["*", ")"],
            "()": ["(", ")"], "( *)": ["(", "*", ")"], "__": ["_", "_"], ":> =": [":>", "="], ": >": [":", ">"],
        }
        for text, signs in cases.items():
            self.assertEqual(plain(text), [("sign", sign) for sign in signs], text)

    def test_identifiers(self):
        for text in ("a", "z", "aB_9'", "a'", "vals", "in_", "x" * 24):
            self.assertEqual(plain(text), [("low", text)])
        for text in ("A", "Z9", "Val", "F'_", "X" * 24):
            self.assertEqual(plain(text), [("high", text)])

    def test_variables(self):
        self.assertEqual(read_tokens("'a 'z"), [("var", "a", 0), ("var", "z", 3)])
        self.assertEqual(plain("'a+"), [("var", "a"), ("sign", "+")])
        self.assertEqual(plain("a'a"), [("low", "a'a")])

    def test_numbers(self):
        for text in ("0", "7", "10", "123456789012345678", "9" * 18):
            self.assertEqual(read_tokens(text), [("int", text, 0)])
        self.assertEqual(plain("~0"), [("sign", "~"), ("int", "0")])
        self.assertEqual(plain("1+2"), [("int", "1"), ("sign", "+"), ("int", "2")])

    def test_strings(self):
        cases = {
            '""': "", '"a b"': "a b", '"\\n"': "\n", '"\\\\"': "\\", '"\\""': "\"", '"(* x"': "(* x",
            '"\\\\n"': "\\n", '"\'"': "'", '"val"': "val",
        }
        for text, meaning in cases.items():
            self.assertEqual(read_tokens(text), [("string", meaning, 0)], text)

    def test_without_anything_between(self):
        self.assertEqual(plain('"a"b"c"'), [("string", "a"), ("low", "b"), ("string", "c")])
        self.assertEqual(plain("_x"), [("sign", "_"), ("low", "x")])
        self.assertEqual(plain("_1'a"[:2]), [("sign", "_"), ("int", "1")])
        self.assertEqual(plain("A.b.C"), [("high", "A"), ("sign", "."), ("low", "b"), ("sign", "."), ("high", "C")])
        self.assertEqual(plain("f(x)"), [("low", "f"), ("sign", "("), ("low", "x"), ("sign", ")")])
        self.assertEqual(plain('"a"1'), [("string", "a"), ("int", "1")])
        self.assertEqual(plain('1"a"'), [("int", "1"), ("string", "a")])


class Places(unittest.TestCase):
    def test_behind_blanks_and_comments(self):
        cases = {
            "  x": 2, "\nx": 1, " \n x": 3, "(* a *)x": 7, "(* (* b *) *) x": 14, '(* " *)x': 7, "(***)x": 5,
            "(*(**)*)x": 8, "(* \n *)\nx": 8, "(* ' *) x": 8, "(* ( * *)x": 9,
        }
        for text, at in cases.items():
            self.assertEqual(read_tokens(text), [("low", "x", at)], text)

    def test_several(self):
        self.assertEqual(read_tokens("val x=1 (* *)\n+ \"a\""), [
            ("word", "val", 0), ("low", "x", 4), ("sign", "=", 5), ("int", "1", 6), ("sign", "+", 14),
            ("string", "a", 16)])

    def test_comments_separate(self):
        self.assertEqual(read_tokens("a(**)b"), [("low", "a", 0), ("low", "b", 5)])
        self.assertEqual(read_tokens(":(**)="), [("sign", ":", 0), ("sign", "=", 5)])


class Faults(unittest.TestCase):
    def check(self, text, at):
        with self.assertRaises(TokenError, msg=text) as caught:
            read_tokens(text)
        self.assertEqual(caught.exception.at, at, text)

    def test_characters(self):
        for sign in "#$&/?@\\`{}\t\r":
            self.check("x " + sign, 2)
            self.check(sign + "x", 0)

    def test_numbers(self):
        for text in ("00", "01", "1" * 19, "0" * 19, "1a", "1_", "1'", "0x", "12B3", "9" * 18 + "a"):
            self.check(text, 0)
            self.check("+ " + text + " +", 2)

    def test_identifiers(self):
        for text in ("x" * 25, "X" * 25, "x'" * 13, "structure" * 3):
            self.check(text, 0)
            self.check("(" + text + ")", 1)

    def test_variables(self):
        for text in ("'", "'A", "'ab", "'a'", "'a1", "'a_", "'1", "''a", "' a", "'_"):
            self.check(text, 0)
            self.check(" " + text, 1)

    def test_comments_without_an_end(self):
        for text in ("(*", "(* a", "(* *", "(*)", "(* (* *)", "(*(*(**)", "(* \" *"):
            self.check(text, 0)
            self.check("x " + text, 2)

    def test_strings(self):
        cases = {
            '"': 0, 'x "abc': 2, '"a\\q"': 2, '"\\': 1, '"a\\': 2, '"a\nb"': 2, '"\\\n"': 1, '"\\t"': 1,
            '"a\\\\': 0, '"\\"': 0, '"a" "b': 4,
        }
        for text, at in cases.items():
            self.check(text, at)

    def test_first_fault_in_a_string(self):
        self.check('"a\\q\n', 2)
        self.check('"a\n\\q', 2)
        self.check('"a\\q', 2)
        self.check('"a\nb', 2)

    def test_first_fault_in_a_text(self):
        self.check("# 00", 0)
        self.check("00 #", 0)
        self.check("ok (* \" *) 'x' (*", 11)


class Length(unittest.TestCase):
    def test_just_short_enough(self):
        self.assertEqual(read_tokens("x" + " " * 3999), [("low", "x", 0)])
        self.assertEqual(len(read_tokens("+" * 4000)), 4000)
        with self.assertRaises(TokenError) as caught:
            read_tokens(" " * 3999 + "#")
        self.assertEqual(caught.exception.at, 3999)

    def test_too_long(self):
        for text in (" " * 4001, "#" + " " * 4000, "x" * 5000, "\"" + "a" * 4000, "(*" + " " * 3999):
            with self.assertRaises(LimitError):
                read_tokens(text)


if __name__ == "__main__":
    unittest.main()
