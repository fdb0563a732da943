"""Types, schemes, substitutions and unifying (points 20 to 22)."""

import copy
import random
import unittest

from guanaco.errors import LimitError, Mismatch
from guanaco.monos import close, instance, nodes, scheme_ty, substitute, ty_scheme, unify, variables
from guanaco.parser import parse_ty

INT, STRING, UNIT = ("con", "int", ()), ("con", "string", ()), ("tuple", ())


def var(a):
    return ("var", a)


def fun(t, u):
    return ("fun", t, u)


def pair(*types):
    return ("tuple", types)


def listed(t):
    return ("con", "list", (t,))


def deep(count, inner=INT):
    for _ in range(count):
        inner = ("con", "ref", (inner,))
    return inner


def parts(ty):
    return {"var": (), "fun": ty[1:], "tuple": ty[1], "con": ty[-1]}[ty[0]]


def random_ty(choices, depth, names):
    kind = choices.randint(0, 5)
    if depth <= 0 or kind == 0:
        return choices.choice([var(a) for a in names] + [INT])
    if kind < 3:
        return fun(random_ty(choices, depth - 1, names), random_ty(choices, depth - 1, names))
    if kind == 3:
        return pair(random_ty(choices, depth - 1, names), random_ty(choices, depth - 1, names))
    return listed(random_ty(choices, depth - 1, names))


def naive_unify(pairs):
    """A unifier that replaces one variable after the other everywhere; None if there is none."""
    pairs, found = list(pairs), {}

    def replace(ty, a, value):
        if ty == var(a):
            return value
        if ty[0] == "var":
            return ty
        inner = tuple(replace(part, a, value) for part in parts(ty))
        return {"fun": ("fun",) + inner, "tuple": ("tuple", inner), "con": ("con", ty[1], inner)}[ty[0]]
    while pairs:
        t, u = pairs.pop()
        if t == u:
            continue
        if t[0] != "var":
            t, u = u, t
        if t[0] == "var":
            if t[1] in variables(u):
                return None
            pairs = [(replace(x, t[1], u), replace(y, t[1], u)) for x, y in pairs]
            found = {a: replace(x, t[1], u) for a, x in found.items()}
            found[t[1]] = u
        elif t[0] != u[0] or t[0] == "con" and t[1] != u[1] or len(parts(t)) != len(parts(u)):
            return None
        else:
            pairs.extend(zip(parts(t), parts(u)))
    return found


class Substitutions(unittest.TestCase):
    def test_plain(self):
        self.assertEqual(substitute({}, fun(var(0), var("a"))), fun(var(0), var("a")))
        self.assertEqual(substitute({0: INT}, fun(var(0), var(1))), fun(INT, var(1)))
        self.assertEqual(substitute({"a": INT, 1: STRING}, pair(var("a"), var(1), var("b"))), pair(INT, STRING, var("b")))
        self.assertEqual(substitute({0: INT}, UNIT), UNIT)
        self.assertEqual(substitute({0: INT}, listed(listed(var(0)))), listed(listed(INT)))

    def test_replacement_goes_on(self):
        chain = {0: var(1), 1: fun(var(2), var("a")), 2: listed(var(3)), "a": var("b"), "b": INT}
        self.assertEqual(substitute(chain, var(0)), fun(listed(var(3)), INT))
        self.assertEqual(substitute(chain, pair(var(2), var("b"), var(4))), pair(listed(var(3)), INT, var(4)))
        long = {k: var(k + 1) for k in range(2000)}
        self.assertEqual(substitute(long, pair(var(0), var(1999))), pair(var(2000), var(2000)))
        long = {k: listed(var(k + 1)) for k in range(250)}
        self.assertEqual(nodes(substitute(long, var(0))), 251)

    def test_letters_and_integers_are_apart(self):
        self.assertEqual(substitute({"a": INT}, pair(var("a"), var(97), var("A"))), pair(INT, var(97), var("A")))

    def test_arguments_are_not_changed(self):
        substitution = {0: var(1), 1: INT}
        substitute(substitution, var(0))
        self.assertEqual(substitution, {0: var(1), 1: INT})


class Measures(unittest.TestCase):
    def test_variables(self):
        self.assertEqual(variables(INT), [])
        self.assertEqual(variables(fun(var("b"), fun(var(3), var("b")))), ["b", 3])
        self.assertEqual(variables(pair(listed(var(2)), var(1), fun(var(0), var(2)))), [2, 1, 0])
        self.assertEqual(variables(("con", "t.1", (var("z"), fun(var("y"), var("z"))))), ["z", "y"])

    def test_nodes(self):
        for ty, count in ((INT, 1), (var(0), 1), (UNIT, 1), (fun(INT, INT), 3), (pair(INT, INT, INT), 4),
                          (listed(listed(INT)), 3), (("con", "t.1", (INT, fun(INT, var(0)))), 5), (deep(5000), 5001)):
            self.assertEqual(nodes(ty), count)


class Schemes(unittest.TestCase):
    def test_close(self):
        self.assertEqual(close(INT), ((), INT))
        self.assertEqual(close(fun(var(7), var("a"))), (("a", "b"), fun(var("a"), var("b"))))
        self.assertEqual(close(fun(var("b"), fun(var("a"), var("b")))), (("a", "b"), fun(var("a"), fun(var("b"), var("a")))))

    def test_close_with_many_variables(self):
        def row(count):
            ty = INT
            for k in reversed(range(count)):
                ty = fun(var(k), ty)
            return ty
        letters, ty = close(row(26))
        self.assertEqual(letters, tuple("abcdefghijklmnopqrstuvwxyz"))
        self.assertEqual(variables(ty), list(letters))
        with self.assertRaises(Mismatch) as caught:
            close(row(27))
        self.assertEqual(caught.exception.number, -1)

    def test_instance(self):
        self.assertEqual(instance(((), INT), ()), INT)
        self.assertEqual(instance((("a", "b"), fun(var("b"), var("a"))), (INT, STRING)), fun(STRING, INT))
        self.assertEqual(instance((("a", "b"), fun(var("a"), var("b"))), (var("b"), var("a"))), fun(var("b"), var("a")))
        self.assertEqual(instance((("a",), listed(var("a"))), [listed(var(3))]), listed(listed(var(3))))
        self.assertEqual(instance((("a",), fun(var("a"), var("c"))), (var("c"),)), fun(var("c"), var("c")))
        self.assertEqual(nodes(instance((("a",), deep(400, var("a"))), (deep(400),))), 801)

    def test_scheme_ty(self):
        for text in ("int", "'a -> 'b", "'a list * unit -> 'a ref", "(int -> bool) -> exn", "string * (int * bool)"):
            ty = parse_ty(text)
            self.assertEqual(scheme_ty(ty_scheme(ty)), ty)
        self.assertEqual(scheme_ty((("a",), listed(var("a")))), ("tycon", ("list",), (("tyvar", "a"),)))
        self.assertEqual(scheme_ty(((), UNIT)), ("tytuple", ()))

    def test_scheme_ty_of_deep_types(self):
        self.assertEqual(scheme_ty(((), deep(29))), parse_ty("int" + " ref" * 29))
        for count in (30, 31, 299, 2000):
            with self.assertRaises(LimitError):
                scheme_ty(((), deep(count)))
        with self.assertRaises(LimitError):
            scheme_ty(((), pair(INT, deep(29))))

    def test_ty_scheme(self):
        self.assertEqual(ty_scheme(parse_ty("int")), ((), INT))
        self.assertEqual(ty_scheme(parse_ty("'b -> 'a -> 'b")), (("a", "b"), fun(var("a"), fun(var("b"), var("a")))))
        self.assertEqual(ty_scheme(parse_ty("('z * unit) list")), (("a",), listed(pair(var("a"), UNIT))))
        self.assertEqual(ty_scheme(parse_ty("'c * 'b * 'a * 'c")), (
            ("a", "b", "c"), pair(var("a"), var("b"), var("c"), var("a"))))


class Unifying(unittest.TestCase):
    def good(self, pairs):
        before = copy.deepcopy(pairs)
        found = unify(pairs)
        self.assertEqual(pairs, before)
        for t, u in pairs:
            self.assertEqual(substitute(found, t), substitute(found, u))
        for a in found:
            self.assertNotIn(a, variables(substitute(found, found[a])))
        return found

    def bad(self, pairs):
        with self.assertRaises(Mismatch) as caught:
            unify(pairs)
        self.assertEqual(caught.exception.number, -1)

    def test_with_an_answer(self):
        self.assertEqual(self.good([]), {})
        self.assertEqual(self.good([(INT, INT)]), {})
        self.assertEqual(self.good([(var(0), var(0))]), {})
        self.assertEqual(self.good([(var(0), INT)]), {0: INT})
        self.assertEqual(self.good([(INT, var("a"))]), {"a": INT})
        found = self.good([(fun(var(0), var("a")), fun(listed(var(1)), INT))])
        self.assertEqual(substitute(found, pair(var(0), var("a"))), pair(listed(var(1)), INT))
        found = self.good([(var(0), var(1)), (var(1), var("b")), (var("b"), STRING)])
        self.assertEqual(substitute(found, pair(var(0), var(1), var("b"))), pair(STRING, STRING, STRING))
        self.good([(var(0), listed(var(1))), (var(2), listed(INT)), (var(0), var(2))])
        self.good([(deep(140, var(0)), deep(140, var(1)))])

    def test_without_an_answer(self):
        for t, u in ((INT, STRING), (INT, fun(INT, INT)), (UNIT, INT), (pair(INT, INT), pair(INT, INT, INT)),
                     (pair(INT, INT), UNIT), (listed(INT), ("con", "ref", (INT,))), (listed(INT), listed(STRING)),
                     (fun(var(0), var(0)), fun(INT, STRING)), (fun(INT, INT), pair(INT, INT)),
                     (("con", "t.1", ()), ("con", "t.2", ()))):
            self.bad([(t, u)])
            self.bad([(u, t)])
            self.bad([(var(5), var(6)), (t, u)])

    def test_variables_that_would_contain_themselves(self):
        self.bad([(var(0), listed(var(0)))])
        self.bad([(fun(var("a"), var("a")), var("a"))])
        self.bad([(var(0), listed(var(1))), (var(1), listed(var(0)))])
        self.bad([(var(0), var(1)), (var(1), pair(INT, var(0)))])
        self.bad([(fun(var(0), var(1)), fun(listed(var(1)), listed(var(0))))])
        self.bad([(fun(var(0), fun(listed(var(0)), var(1))), fun(var(1), fun(var(1), INT)))])
        self.bad([(var(0), listed(var(1))), (listed(var(0)), var(1))])
        self.bad([(var(0), deep(200, var(0)))])
        self.bad([(pair(var(0), var(1)), pair(listed(var(2)), listed(var(3)))), (pair(var(2), var(3)), pair(var(1), var(0)))])

    def test_types_that_share_much(self):
        for first, second in ((0, 100), (0, 0)):
            pairs = []
            for start in (first, second):
                pairs += [(var(start + k), pair(var(start + k + 1), var(start + k + 1))) for k in range(35)]
            pairs.append((var(first), var(second)))
            found = unify(pairs)
            self.assertEqual(substitute(found, var(first + 30)), substitute(found, var(second + 30)))
            self.assertEqual(nodes(substitute(found, var(first + 31))), 31)
        clash = pairs + [(var(200 + k), pair(var(201 + k), var(201 + k))) for k in range(35)]
        self.bad(clash + [(var(235), INT), (var(35), STRING), (var(200), var(0))])
        cycle = pairs[:35] + [(var(35), listed(var(0)))]
        self.bad(cycle)

    def test_most_general(self):
        choices = random.Random(5)
        answers = [0, 0]
        names = (0, 1, 2, "a", "b", 7)
        for _ in range(3000):
            pairs = [(random_ty(choices, 3, names), random_ty(choices, 3, names)) for _ in range(choices.randint(1, 2))]
            other = naive_unify(pairs)
            answers[other is None] += 1
            if other is None:
                self.bad(pairs)
                continue
            found = self.good(pairs)
            # The other answer factors through this one.
            for a in names:
                self.assertEqual(substitute(other, var(a)), substitute(other, substitute(found, var(a))))
        self.assertGreater(min(answers), 300)

    def test_answers_do_not_depend_on_earlier_calls(self):
        pairs = [(fun(var(0), var(1)), fun(var(1), listed(INT)))]
        first = unify(pairs)
        first[9] = INT
        unify([(var(0), STRING)])
        self.assertEqual(unify(pairs), {a: ty for a, ty in first.items() if a != 9})


if __name__ == "__main__":
    unittest.main()
