"""The form of core programs (points 80 to 83 and 85), and their size."""

from guanaco.core_trees import children
from guanaco.errors import GuanacoError
from guanaco.primitives import LONGEST_STRING, in_range, is_primitive, takes_pair
from guanaco.start import DATA

BUILT_IN = {"int": 0, "string": 0, "exn": 0, "ref": 1}
MOST_PARTS = 6


class Unformed(GuanacoError):
    """A tuple is no formed core program."""


class Form:
    """What is still to be looked at, the variables that are bound, and the numbers of parameters of types.

    `work` has pairs of a function of this file and what it looks at.
    """

    def __init__(self):
        self.work = []
        self.bound = {}
        self.arities = dict(BUILT_IN)

    def later(self, check, things):
        """Notes what is to be looked at."""
        for thing in things:
            self.work.append((check, thing))

    def ty(self, ty, letters=None):
        """Notes a type with the letters that may occur in it; None is for any letters."""
        self.work.append((check_ty, (ty, letters, True)))

    def bind(self, x):
        """A variable that is bound."""
        demand(isinstance(x, str) and "." in x and x not in self.bound)
        self.bound[x] = True


def is_formed(core):
    """Whether a nested tuple is a formed core program."""
    form = Form()
    try:
        check_core(form, core)
        while form.work:
            check, thing = form.work.pop()
            check(form, thing)
    except Unformed:
        return False
    return True


def measure_core(core):
    """The number of expressions and declarations in a core program."""
    count = 0
    work = list(core[1])
    while work:
        count += 1
        work.extend(children(work.pop()))
    return count


def demand(test):
    """Raises Unformed unless a test holds."""
    if not test:
        raise Unformed("this is no formed core program")


def parts_of(thing, count):
    """The tuple itself, which must have so many parts."""
    demand(isinstance(thing, tuple) and len(thing) == count)
    return thing


def row(thing):
    """The tuple itself."""
    demand(isinstance(thing, tuple))
    return thing


def check_name(thing):
    """A name."""
    demand(isinstance(thing, str))


def is_number(thing):
    """Whether something is an integer of the language, and no boolean."""
    return isinstance(thing, int) and not isinstance(thing, bool) and in_range(thing)


def is_text(thing):
    """Whether something is a string of the language."""
    return isinstance(thing, str) and len(thing) <= LONGEST_STRING


def check_index(thing):
    """The number of a constructor."""
    demand(isinstance(thing, int) and not isinstance(thing, bool) and thing >= 0)


def check_distinct(found):
    """Different strings."""
    seen = {}
    for name in row(found):
        check_name(name)
        demand(name not in seen)
        seen[name] = True


def check_core(form, core):
    """A core program."""
    data, declarations, shown = parts_of(core, 3)
    demand(row(data)[:2] == DATA)
    for entry in data:
        name, letters, _ = parts_of(entry, 3)
        check_name(name)
        check_distinct(letters)
        demand(name not in form.arities)
        form.arities[name] = len(letters)
    for _, letters, constructors in data:
        check_constructors(form, letters, constructors)
    form.later(check_declaration, row(declarations))
    for entry in row(shown):
        check_shown(form, entry)


def check_constructors(form, letters, constructors):
    """The constructors of a data type."""
    demand(row(constructors) != ())
    for constructor in constructors:
        _, ty = parts_of(constructor, 2)
        if ty is not None:
            form.ty(ty, letters)
    check_distinct(tuple([name for name, _ in constructors]))


def check_shown(form, entry):
    """A value that is shown."""
    name, scheme, x, letters, ty = parts_of(entry, 5)
    check_name(name)
    check_name(x)
    scheme_letters, scheme_ty = parts_of(scheme, 2)
    check_distinct(scheme_letters)
    form.work.append((check_ty, (scheme_ty, scheme_letters, False)))
    check_distinct(letters)
    form.ty(ty, letters)


def check_ty(form, thing):
    """A type with the letters that may occur in it, and whether its type constructors are looked at."""
    ty, letters, known = thing
    demand(row(ty) != () and isinstance(ty[0], str))
    parts = ()
    if ty[0] == "var":
        _, letter = parts_of(ty, 2)
        check_name(letter)
        demand(letters is None or letter in letters)
    elif ty[0] == "fun":
        parts = parts_of(ty, 3)[1:]
    elif ty[0] == "tuple":
        parts = check_width(parts_of(ty, 2)[1])
    else:
        kind, name, parts = parts_of(ty, 3)
        demand(kind == "con")
        check_name(name)
        row(parts)
        demand(not known or form.arities.get(name) == len(parts))
    for part in parts:
        form.work.append((check_ty, (part, letters, known)))


def check_width(parts):
    """The parts of a tuple."""
    demand(len(row(parts)) <= MOST_PARTS and len(parts) != 1)
    return parts


def check_declaration(form, declaration):
    """A declaration."""
    demand(row(declaration) != ())
    if declaration[0] == "let":
        _, x, letters, ty, e = parts_of(declaration, 5)
        form.bind(x)
        check_distinct(letters)
        form.ty(ty)
        form.later(check_expression, [e])
    elif declaration[0] == "fix":
        check_fix(form, declaration)
    else:
        tag, z, ty = parts_of(declaration, 3)
        demand(tag == "exception")
        form.bind(z)
        if ty is not None:
            form.ty(ty, ())


def check_fix(form, declaration):
    """A group of functions."""
    _, functions = parts_of(declaration, 2)
    demand(row(functions) != ())
    first = parts_of(functions[0], 6)[1]
    check_distinct(first)
    for function in functions:
        f, letters, ty, x, source, e = parts_of(function, 6)
        form.bind(f)
        form.bind(x)
        demand(letters == first)
        form.ty(ty)
        form.ty(source)
        form.later(check_expression, [e])


def check_expression(form, e):
    """An expression."""
    demand(row(e) != () and isinstance(e[0], str) and e[0] in EXPRESSIONS)
    count, check = EXPRESSIONS[e[0]]
    parts_of(e, count)
    check(form, e)


def check_int(form, e):
    """An integer."""
    demand(is_number(e[1]))


def check_string(form, e):
    """A string."""
    demand(is_text(e[1]))


def check_var(form, e):
    """A variable."""
    check_name(e[1])
    for ty in row(e[2]):
        form.ty(ty)


def check_fn(form, e):
    """A function."""
    form.bind(e[1])
    form.ty(e[2])
    form.later(check_expression, [e[3]])


def check_apply(form, e):
    """An application."""
    form.later(check_expression, e[1:])


def check_block(form, e):
    """A block."""
    form.later(check_declaration, row(e[1]))
    form.later(check_expression, [e[2]])


def check_tuple(form, e):
    """A tuple."""
    form.later(check_expression, check_width(e[1]))


def check_part(form, e):
    """A component of a tuple."""
    check_index(e[1])
    demand(e[1] < MOST_PARTS)
    form.later(check_expression, [e[2]])


def check_optional(form, e):
    """An expression or None."""
    if e is not None:
        check_expression(form, e)


def check_con(form, e):
    """A constructor."""
    _, name, types, k, argument = e
    check_name(name)
    demand(form.arities.get(name) == len(row(types)))
    for ty in types:
        form.ty(ty)
    check_index(k)
    form.later(check_optional, [argument])


def check_branch(form, branch):
    """A branch of a `switch` or an `unpack` but for what selects it."""
    _, y, e = branch
    if y is not None:
        form.bind(y)
    form.later(check_expression, [e])


def check_switch(form, e):
    """A `switch`."""
    _, x, branches, default = e
    check_name(x)
    least = 0
    for branch in row(branches):
        k = parts_of(branch, 3)[0]
        check_index(k)
        demand(k >= least)
        least = k + 1
        check_branch(form, branch)
    form.later(check_optional, [default])


def check_choose(form, e):
    """A `choose`."""
    _, x, branches, default = e
    check_name(x)
    seen = {}
    for branch in row(branches):
        c, body = parts_of(branch, 2)
        demand((is_number(c) or is_text(c)) and c not in seen)
        seen[c] = True
        form.later(check_expression, [body])
    demand(len([c for c in seen if isinstance(c, str)]) in (0, len(seen)))
    form.later(check_expression, [default])


def check_unpack(form, e):
    """An `unpack`."""
    _, x, branches, default = e
    check_name(x)
    seen = {}
    for branch in row(branches):
        z = parts_of(branch, 3)[0]
        check_name(z)
        demand(z not in seen)
        seen[z] = True
        check_branch(form, branch)
    form.later(check_expression, [default])


def check_pack(form, e):
    """An exception value."""
    check_name(e[1])
    form.later(check_optional, [e[2]])


def check_raise(form, e):
    """A `raise`."""
    form.ty(e[1])
    form.later(check_expression, [e[2]])


def check_handle(form, e):
    """A `handle`."""
    form.bind(e[2])
    form.later(check_expression, [e[1], e[3]])


def check_prim(form, e):
    """A primitive."""
    _, name, parts = e
    demand(isinstance(name, str) and is_primitive(name))
    demand(len(row(parts)) == (2 if takes_pair(name) else 1))
    form.later(check_expression, parts)


# The number of parts of each kind of expression, and what looks at them.
EXPRESSIONS = {
    "int": (2, check_int), "string": (2, check_string), "var": (3, check_var), "fn": (4, check_fn),
    "apply": (3, check_apply), "block": (3, check_block), "tuple": (2, check_tuple), "part": (3, check_part),
    "con": (5, check_con), "switch": (4, check_switch), "choose": (4, check_choose), "unpack": (4, check_unpack),
    "pack": (3, check_pack), "raise": (3, check_raise), "handle": (4, check_handle), "prim": (3, check_prim),
}
