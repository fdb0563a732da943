"""The types of the core language (point 86)."""

from guanaco.core import is_formed
from guanaco.core_trees import children
from guanaco.errors import GuanacoError
from guanaco.forms import EXN, INT, STRING, equal_types
from guanaco.monos import instance, variables
from guanaco.start import EXCEPTIONS, primitive_schemes

# The kinds of expressions and declarations whose parts must be quiet, and of those that are quiet themselves.
QUIET_ABOVE = ("tuple", "part", "con", "pack", "switch", "choose", "unpack", "block", "let")
QUIET = ("int", "string", "var", "fn", "fix")


class Untyped(GuanacoError):
    """A formed core program is not typed."""


class Judge:
    """What is in scope, what is still to be looked at (the last thing first), and the types that were found for it.

    `values_of` has the letters and types of variables, `exceptions` the types of the arguments of exceptions.
    """

    def __init__(self, data):
        self.data = {name: (letters, constructors) for name, letters, constructors in data}
        self.primitives = {name: ty for name, (_, ty) in primitive_schemes()}
        self.scope = {}
        self.exceptions = {name: None for name in EXCEPTIONS}
        self.letters = {}
        self.work = []
        self.done = []

    def later(self, action, thing):
        """Notes what is to be looked at next."""
        self.work.append((action, thing))

    def known(self, ty):
        """The type itself, whose letters must be in scope."""
        for letter in variables(ty):
            demand(letter in self.letters)
        return ty

    def plain(self, x):
        """The type of a variable without letters."""
        demand(x in self.scope)
        letters, ty = self.scope[x]
        demand(letters == ())
        return ty

    def open_letters(self, letters):
        """Letters come into scope."""
        for letter in letters:
            demand(letter not in self.letters)
            self.letters[letter] = True

    def close_letters(self, letters):
        """Letters are no longer in scope."""
        for letter in letters:
            del self.letters[letter]


def is_typed(core):
    """Whether a nested tuple is a formed and typed core program."""
    if not is_formed(core):
        return False
    data, declarations, shown = core
    judge = Judge(data)
    for declaration in reversed(declarations):
        judge.later(declare, declaration)
    try:
        while judge.work:
            action, thing = judge.work.pop()
            action(judge, thing)
        for _, _, x, letters, ty in shown:
            demand(x in judge.scope)
            own_letters, own = judge.scope[x]
            demand(own_letters == letters and equal_types(own, ty))
    except Untyped:
        return False
    return True


def demand(test):
    """Raises Untyped unless a test holds."""
    if not test:
        raise Untyped("this core program is not typed")


def demand_equal(first, second):
    """Raises Untyped unless two types are equal."""
    demand(equal_types(first, second))


def is_quiet(e):
    """Whether an expression is quiet."""
    work = [e]
    while work:
        tree = work.pop()
        if tree[0] in QUIET_ABOVE:
            work.extend(children(tree))
        elif tree[0] not in QUIET:
            return False
    return True


def declare(judge, declaration):
    """A declaration."""
    if declaration[0] == "let":
        _, x, letters, ty, e = declaration
        demand(letters == () or is_quiet(e))
        judge.open_letters(letters)
        judge.known(ty)
        judge.later(end_let, declaration)
        judge.later(visit, e)
    elif declaration[0] == "fix":
        declare_functions(judge, declaration[1])
    else:
        judge.exceptions[declaration[1]] = declaration[2]


def end_let(judge, declaration):
    """A `let` behind its expression."""
    _, x, letters, ty, _ = declaration
    demand_equal(judge.done.pop(), ty)
    judge.close_letters(letters)
    judge.scope[x] = (letters, ty)


def declare_functions(judge, functions):
    """A group of functions."""
    judge.open_letters(functions[0][1])
    for f, _, ty, _, _, _ in functions:
        judge.scope[f] = ((), judge.known(ty))
    judge.later(end_functions, functions)
    for function in functions:
        judge.later(end_function, function)
        judge.later(visit, function[5])
        judge.later(open_scope, (function[3], judge.known(function[4])))


def end_function(judge, function):
    """A function of a group behind its body."""
    _, _, ty, x, source, _ = function
    del judge.scope[x]
    demand_equal(ty, ("fun", source, judge.done.pop()))


def end_functions(judge, functions):
    """A group behind its functions."""
    judge.close_letters(functions[0][1])
    for f, letters, ty, _, _, _ in functions:
        judge.scope[f] = (letters, ty)


def open_scope(judge, thing):
    """A variable without letters comes into scope."""
    x, ty = thing
    judge.scope[x] = ((), ty)


def close_scope(judge, x):
    """A variable is no longer in scope."""
    del judge.scope[x]


def visit(judge, e):
    """Finds the type of an expression."""
    if e[0] not in BEHIND_PARTS:
        rule = EXPRESSIONS[e[0]]
        rule(judge, e)
        return
    action = BEHIND_PARTS[e[0]]
    judge.later(action, e)
    for part in reversed(children(e)):
        judge.later(visit, part)


def take(judge, count):
    """The list of the last types that were found."""
    first = len(judge.done) - count
    found = judge.done[first:]
    del judge.done[first:]
    return found


def visit_int(judge, e):
    """An integer."""
    judge.done.append(INT)


def visit_string(judge, e):
    """A string."""
    judge.done.append(STRING)


def visit_var(judge, e):
    """A variable."""
    demand(e[1] in judge.scope)
    letters, ty = judge.scope[e[1]]
    demand(len(letters) == len(e[2]))
    types = [judge.known(part) for part in e[2]]
    judge.done.append(instance((letters, ty), types) if letters else ty)


def visit_fn(judge, e):
    """A function."""
    judge.scope[e[1]] = ((), judge.known(e[2]))
    judge.later(end_fn, e)
    judge.later(visit, e[3])


def end_fn(judge, e):
    """A function behind its body."""
    del judge.scope[e[1]]
    judge.done.append(("fun", e[2], judge.done.pop()))


def end_apply(judge, e):
    """An application behind its parts."""
    function, argument = take(judge, 2)
    demand(function[0] == "fun")
    demand_equal(function[1], argument)
    judge.done.append(function[2])


def visit_block(judge, e):
    """A block."""
    judge.later(end_block, e)
    judge.later(visit, e[2])
    for declaration in reversed(e[1]):
        judge.later(declare, declaration)


def end_block(judge, e):
    """What a block declares is no longer in scope behind it."""
    for declaration in e[1]:
        if declaration[0] == "let":
            del judge.scope[declaration[1]]
        elif declaration[0] == "exception":
            del judge.exceptions[declaration[1]]
        else:
            for function in declaration[1]:
                del judge.scope[function[0]]


def end_tuple(judge, e):
    """A tuple behind its parts."""
    judge.done.append(("tuple", tuple(take(judge, len(e[1])))))


def end_part(judge, e):
    """A component behind its tuple."""
    ty = judge.done.pop()
    demand(ty[0] == "tuple" and e[1] < len(ty[1]))
    judge.done.append(ty[1][e[1]])


def argument_of(judge, ty, k):
    """The type of the argument of a constructor of a data type, or None."""
    demand(ty[0] == "con" and ty[1] in judge.data)
    letters, constructors = judge.data[ty[1]]
    demand(k < len(constructors))
    argument = constructors[k][1]
    return None if argument is None else instance((letters, argument), ty[2])


def end_con(judge, e):
    """A constructor behind its argument."""
    _, name, types, k, _ = e
    for part in types:
        judge.known(part)
    ty = ("con", name, types)
    demand_argument(judge, argument_of(judge, ty, k), e[4])
    judge.done.append(ty)


def demand_argument(judge, wanted, e):
    """Raises Untyped unless there is an argument exactly if one is wanted, with this type."""
    demand((wanted is None) == (e is None))
    if e is not None:
        demand_equal(judge.done.pop(), wanted)


def visit_branches(judge, e, arguments):
    """The branches of a selection; `arguments` has the types of their arguments or None."""
    judge.later(end_branches, e)
    if e[3] is not None:
        judge.later(visit, e[3])
    for branch, argument in zip(e[2], arguments):
        y = branch[1] if len(branch) == 3 else None
        if y is None:
            judge.later(visit, branch[-1])
        else:
            demand(argument is not None)
            judge.later(close_scope, y)
            judge.later(visit, branch[-1])
            judge.later(open_scope, (y, argument))


def end_branches(judge, e):
    """A selection behind its branches and its default."""
    found = take(judge, len(children(e)))
    for ty in found:
        demand_equal(ty, found[0])
    judge.done.append(found[0])


def visit_switch(judge, e):
    """A `switch`."""
    ty = judge.plain(e[1])
    demand(ty[0] == "con" and ty[1] in judge.data)
    demand(e[3] is not None or len(e[2]) == len(judge.data[ty[1]][1]))
    visit_branches(judge, e, [argument_of(judge, ty, branch[0]) for branch in e[2]])


def visit_choose(judge, e):
    """A `choose`."""
    ty = judge.plain(e[1])
    demand(ty in (INT, STRING))
    for c, _ in e[2]:
        demand(isinstance(c, int) == (ty == INT))
    visit_branches(judge, e, [None for _ in e[2]])


def visit_unpack(judge, e):
    """An `unpack`."""
    demand_equal(judge.plain(e[1]), EXN)
    for branch in e[2]:
        demand(branch[0] in judge.exceptions)
    visit_branches(judge, e, [judge.exceptions[branch[0]] for branch in e[2]])


def end_pack(judge, e):
    """An exception value behind its argument."""
    demand(e[1] in judge.exceptions)
    demand_argument(judge, judge.exceptions[e[1]], e[2])
    judge.done.append(EXN)


def end_raise(judge, e):
    """A `raise` behind its exception value."""
    demand_equal(judge.done.pop(), EXN)
    judge.done.append(judge.known(e[1]))


def visit_handle(judge, e):
    """A `handle`."""
    judge.later(end_handle, e)
    judge.later(close_scope, e[2])
    judge.later(visit, e[3])
    judge.later(open_scope, (e[2], EXN))
    judge.later(visit, e[1])


def end_handle(judge, e):
    """A `handle` behind its parts."""
    first, second = take(judge, 2)
    demand_equal(first, second)
    judge.done.append(first)


def end_prim(judge, e):
    """A primitive behind its parts."""
    found = take(judge, len(e[2]))
    _, source, target = judge.primitives[e[1]]
    held = found[0]
    if e[1] in ("get", "assign"):
        demand(held[0] == "con" and held[1] == "ref")
        held = held[2][0]
    argument = found[0] if len(found) == 1 else ("tuple", tuple(found))
    demand_equal(argument, instance((("a",), source), [held]))
    judge.done.append(instance((("a",), target), [held]))


EXPRESSIONS = {
    "int": visit_int, "string": visit_string, "var": visit_var, "fn": visit_fn, "block": visit_block,
    "switch": visit_switch, "choose": visit_choose, "unpack": visit_unpack, "handle": visit_handle,
}
# What finds the type of an expression from those of all expressions within it.
BEHIND_PARTS = {
    "apply": end_apply, "tuple": end_tuple, "part": end_part, "con": end_con, "pack": end_pack, "raise": end_raise,
    "prim": end_prim,
}
