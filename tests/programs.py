"""Random programs that have a type, for the tests of what runs. The seeds are fixed."""

from guanaco.cover import unused
from guanaco.parser import parse

INT = ("con", "int", ())
STRING = ("con", "string", ())
BOOL = ("con", "bool", ())
EXN = ("con", "exn", ())
UNIT = ("tuple", ())
COLOR = ("con", "color", ())
HIDDEN = ("con", "hidden", ())


def listed(ty):
    return ("con", "list", (ty,))


def boxed(ty):
    return ("con", "box", (ty,))


def tree(ty):
    return ("con", "tree", (ty,))


def held(ty):
    return ("con", "ref", (ty,))


def fun(ty, other):
    return ("fun", ty, other)


def pair(*types):
    return ("tuple", types)


A, B = ("var", "a"), ("var", "b")
DATA = (
    ("bool", (), (("False", None), ("True", None))),
    ("list", ("a",), (("Nil", None), ("Cons", pair(A, listed(A))))),
    ("color", (), (("Red", None), ("Green", None), ("Blue", INT))),
    ("box", ("a",), (("Box", A),)),
    ("tree", ("a",), (("Leaf", None), ("Node", pair(tree(A), A, tree(A))))),
    ("exn", (), (("E", None), ("F", INT), ("G", pair(BOOL, STRING)), ("Div", None), ("Overflow", None))),
)
TABLE = {name: (letters, pairs) for name, letters, pairs in DATA}
PRELUDES = (
    """
datatype color = Red | Green | Blue of int
datatype 'a box = Box of 'a and 'a tree = Leaf | Node of 'a tree * 'a * 'a tree
exception E exception F of int exception G of bool * string
fun id x = x
fun map f l = case l of [] => [] | x :: r => f x :: map f r
fun fold f a l = case l of [] => a | x :: r => fold f (f (a, x)) r
fun even n = if n <= 0 then true0 () else odd (n - 1) and odd n = if n <= 0 then false0 () else even (n - 1)
and true0 _ = True and false0 _ = False
structure S :> sig type hidden val make : int -> hidden val look : hidden -> int end
= struct type hidden = int * int fun make n = (n, n) fun look (a, b) = a - b + a end
val log = fn s => print s
""",
    """
datatype color = Red | Green | Blue of int
structure T = struct datatype 'a box = Box of 'a and 'a tree = Leaf | Node of 'a tree * 'a * 'a tree
fun id x = let val y = x in y end end
open T
exception E exception F of int exception G of bool * string
functor Lists (X : sig val log : string -> unit type hidden val zero : hidden end) = struct
fun map f = fn [] => (X.log "m"; []) | x :: r => let val y = f x in y :: map f r end
fun fold f a l = case l of [] => a | x :: r => f (fold f a r, x)
exception Gone of X.hidden
end
structure L = Lists (struct val log = print type hidden = string val zero = "z" end)
structure M = Lists (struct val log = fn _ => () type hidden = int list val zero = [1] end)
val map = L.map val fold = M.fold
val log = fn s => (print s; print s) handle L.Gone _ => ()
fun even n = n mod 2 = 0
structure S :> sig datatype hidden = A of int | C val make : int -> hidden val look : hidden -> int end
= struct datatype hidden = A of int | C fun make 0 = C | make n = A n fun look C = 7 | look (A n) = n end
""",
    """
structure P = struct datatype color = Red | Green | Blue of int exception E exception F of int end
open P
datatype 'a box = Box of 'a
datatype 'a tree = Leaf | Node of 'a tree * 'a * 'a tree
exception G of bool * string
signature K = sig type 'b k val mk : int -> 'b k val un : 'b k -> int exception Bad of int end
functor Make (structure0 : K) = struct
structure In : K = struct open structure0 val mk = fn n => mk (n + 1) end
type hidden = string In.k
val make = fn n => In.mk n : hidden
fun look h = (if In.un h > 100 then raise In.Bad 3 else In.un h) handle In.Bad n => n
end
""".replace("structure0", "Q") + """
structure S = Make (struct datatype 'c k = K of int fun mk n = K n fun un (K n) = n exception Bad of int end)
structure S :> sig type hidden val make : int -> hidden val look : hidden -> int end = S
val id = fn x => x
fun fold f a l = let fun go (a, []) = a | go (a, x :: r) = go (f (a, x), r) in go (a, l) end
fun map f l = fold (fn (a, x) => f x :: a) [] l
val (log, even) = (fn s => (print (s ^ "!")), fn n => n - 2 * (n div 2) = 0)
""",
)


def replace(ty, meaning):
    if ty[0] == "var":
        return meaning.get(ty[1], ty)
    if ty[0] == "fun":
        return ("fun", replace(ty[1], meaning), replace(ty[2], meaning))
    if ty[0] == "tuple":
        return ("tuple", tuple(replace(part, meaning) for part in ty[1]))
    return ("con", ty[1], tuple(replace(part, meaning) for part in ty[2]))


def constructors(ty):
    letters, pairs = TABLE[ty[1]]
    meaning = dict(zip(letters, ty[2]))
    return [(name, None if inner is None else replace(inner, meaning)) for name, inner in pairs]


def app(name, *arguments):
    argument = arguments[0] if len(arguments) == 1 else ("tuple", arguments)
    return ("app", ("var", (name,)), argument)


class Writer:
    """Writes random expressions of given types."""

    def __init__(self, random):
        self.random = random
        self.count = 0

    def one(self, choices):
        return self.random.choice(choices)

    def name(self):
        self.count += 1
        return f"v{self.count}"

    def ty(self, depth):
        if depth <= 0 or self.random.random() < 0.3:
            return self.one((INT, INT, STRING, BOOL, UNIT, COLOR, EXN, HIDDEN))
        kind = self.random.randint(0, 6)
        inner = self.ty(depth - 1)
        if kind == 0:
            return fun(inner, self.ty(depth - 1))
        if kind == 1:
            return pair(inner, self.ty(depth - 1))
        if kind == 2:
            return pair(inner, self.ty(depth - 1), self.ty(0))
        return self.one((listed, boxed, tree, held, listed))(inner)

    def expression(self, ty, depth, env):
        found = [name for name, other in env if other == ty]
        if found and self.random.random() < 0.35:
            return ("var", (self.one(found),))
        if depth <= 0:
            return self.leaf(ty, env)
        kind = self.random.randint(0, 15)
        below = depth - 1
        if kind == 0:
            return ("if", self.expression(BOOL, below, env), self.expression(ty, below, env),
                    self.expression(ty, below, env))
        if kind in (1, 2):
            other = self.ty(2)
            return ("case", self.expression(other, below, env), self.rules(other, ty, below, env, True))
        if kind == 3:
            return self.let(ty, below, env)
        if kind == 4:
            return ("seq", app("log", ("string", self.one("abc"))), self.expression(ty, below, env))
        if kind == 5:
            return ("handle", self.expression(ty, below, env), self.rules(EXN, ty, below, env, False))
        if kind == 6 and self.random.random() < 0.5:
            return ("raise", self.expression(EXN, below, env))
        if kind == 7:
            other = self.ty(1)
            return ("app", self.expression(fun(other, ty), below, env), self.expression(other, below, env))
        if kind == 8:
            return app("get", self.expression(held(ty), below, env))
        if kind == 9:
            return app("id", self.expression(ty, below, env))
        if kind == 10:
            other = self.ty(1)
            function = self.expression(fun(pair(ty, other), ty), below, env)
            return ("app", ("app", app("fold", function), self.expression(ty, below, env)),
                    self.expression(listed(other), below, env))
        return self.made(ty, depth, env)

    def let(self, ty, depth, env):
        if self.random.random() < 0.3:
            name, argument, result = self.name(), self.ty(1), self.ty(1)
            inner = env + [(name, fun(argument, result))]
            binding = (name, self.rules(argument, result, depth, env, True))
            return ("let", (("fun", (binding,)),), self.expression(ty, depth, inner))
        if self.random.random() < 0.15:
            local = ("exception", self.one(("E", "F")), None)
            local = local if local[1] == "E" else ("exception", "F", ("tycon", ("int",), ()))
            return ("let", (local,), self.expression(ty, depth, env))
        other = self.ty(2)
        found = []
        pattern = self.total(other, 2, found)
        declaration = ("val", pattern, self.expression(other, depth, env))
        return ("let", (declaration,), self.expression(ty, depth, env + found))

    def leaf(self, ty, env):
        found = [name for name, other in env if other == ty]
        if found:
            return ("var", (self.one(found),))
        return self.made(ty, 0, env)

    def made(self, ty, depth, env):
        below = depth - 1
        if ty == INT:
            return self.number(depth, env)
        if ty == STRING:
            return self.text(depth, env)
        if ty == BOOL and depth > 0 and self.random.random() < 0.7:
            name = self.one(("equal", "unequal", "less", "atmost", "greater", "atleast", "same"))
            part = STRING if name == "same" else INT
            return app(name, self.expression(part, below, env), self.expression(part, below, env))
        if ty == HIDDEN:
            return ("app", ("var", ("S", "make")), self.expression(INT, below, env))
        if ty[0] == "tuple":
            if not ty[1] and depth > 0:
                return self.one((app("log", self.expression(STRING, below, env)), ("tuple", ())))
            return ("tuple", tuple(self.expression(part, below, env) for part in ty[1]))
        if ty[0] == "fun":
            return self.function(ty, depth, env)
        if ty[1] == "ref":
            return app("ref", self.expression(ty[2][0], below, env))
        if ty[1] == "list" and depth > 1 and self.random.random() < 0.4:
            other = self.ty(1)
            mapped = app("map", self.expression(fun(other, ty[2][0]), below, env))
            return ("app", mapped, self.expression(listed(other), below, env))
        choices = constructors(ty)
        if depth <= 0:
            choices = [row for row in choices if row[1] is None] or choices
        name, inner = self.one(choices)
        if inner is None:
            return ("con", (name,))
        return ("app", ("con", (name,)), self.expression(inner, below, env))

    def function(self, ty, depth, env):
        if self.random.random() < 0.1:
            for name, source, target in (("plus", pair(INT, INT), INT), ("negate", INT, INT), ("digits", INT, STRING),
                                         ("less", pair(INT, INT), BOOL), ("print", STRING, UNIT),
                                         ("concat", pair(STRING, STRING), STRING)):
                if ty == fun(source, target):
                    return ("var", (name,))
        for name, inner in (("Blue", INT), ("Box", ty[1])):
            target = COLOR if name == "Blue" else boxed(inner)
            if ty == fun(inner, target) and self.random.random() < 0.3:
                return ("con", (name,))
        return ("fn", self.rules(ty[1], ty[2], depth - 1, env, True))

    def number(self, depth, env):
        if depth <= 0 or self.random.random() < 0.25:
            return ("int", self.one((0, 1, 2, 3, 7, -1, 2000000000)))
        below = depth - 1
        name = self.one(("plus", "minus", "times", "quotient", "remainder", "negate", "size", "code", "look"))
        if name == "look":
            return ("app", ("var", ("S", "look")), self.expression(HIDDEN, below, env))
        if name == "negate":
            return app(name, self.expression(INT, below, env))
        if name == "size":
            return app(name, self.expression(STRING, below, env))
        first = self.expression(STRING if name == "code" else INT, below, env)
        return app(name, first, self.expression(INT, below, env))

    def text(self, depth, env):
        if depth <= 0 or self.random.random() < 0.4:
            return ("string", self.one(("", "a", "bc", "x" * 90)))
        if self.random.random() < 0.5:
            return app("digits", self.expression(INT, depth - 1, env))
        return app("concat", self.expression(STRING, depth - 1, env), self.expression(STRING, depth - 1, env))

    def rules(self, ty, result, depth, env, covers):
        rows = []
        count = self.random.randint(1, 4)
        for k in range(count):
            found = []
            last = covers and k == count - 1
            pattern = self.one((("any",), ("name", self.name()))) if last else self.pattern(ty, 3, found)
            if pattern[0] == "name":
                found = [(pattern[1], ty)]
            rows.append((pattern, found))
        while True:
            place = unused(DATA, ty, [plain(row[0]) for row in rows])
            if place is None:
                break
            del rows[place]
        return tuple((pattern, self.expression(result, depth - 1, env + found)) for pattern, found in rows)

    def pattern(self, ty, depth, found):
        if depth <= 0 or self.random.random() < 0.2 or ty[0] == "fun" or ty in (HIDDEN,) or ty[1] == "ref":
            if self.random.random() < 0.5:
                return ("any",)
            found.append((self.name(), ty))
            return ("name", found[-1][0])
        if ty == INT:
            return ("pint", self.one((0, 1, 2, -1)))
        if ty == STRING:
            return ("pstring", self.one(("", "a", "~1")))
        if ty[0] == "tuple":
            return ("ptuple", tuple(self.pattern(part, depth - 1, found) for part in ty[1]))
        name, inner = self.one(constructors(ty))
        return ("pcon", (name,), None if inner is None else self.pattern(inner, depth - 1, found))

    def total(self, ty, depth, found):
        if depth > 0 and ty[0] == "tuple":
            return ("ptuple", tuple(self.total(part, depth - 1, found) for part in ty[1]))
        if depth > 0 and ty[:2] == ("con", "box"):
            return ("pcon", ("Box",), self.total(ty[2][0], depth - 1, found))
        if self.random.random() < 0.15:
            return ("any",)
        found.append((self.name(), ty))
        return ("name", found[-1][0])

    def program(self, count, depth):
        """A program of a prelude and some values."""
        declarations = list(parse(self.one(PRELUDES)))
        env = []
        for _ in range(count):
            ty = self.ty(2)
            found = []
            pattern = self.total(ty, 2, found)
            declarations.append(("val", pattern, self.expression(ty, depth, env)))
            env = env + found
        return tuple(declarations)


def plain(pattern):
    """The pattern as the functions of the matches read it."""
    return ("any",) if pattern[0] == "name" else pattern
