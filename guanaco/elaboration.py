"""Core expressions and declarations for the drafts of `infer` (point 90).

In the environments here a value is `("primitive", name)` or `("value", variable)`, an exception its variable.
"""

from guanaco.core_matches import block, name_of, plan, share_parts, tried, variable
from guanaco.environment import CONSTRUCTOR, STRUCTURE, Environment, seek_path
from guanaco.forms import BOOL
from guanaco.monos import variables
from guanaco.primitives import takes_pair
from guanaco.realization import letter, realize, types_within


class Site:
    """What the elaboration of a program has made.

    `schemes` has the letters and types of variables with letters, `types` those that the draft of the declaration
    at hand notes, `meanings` the entries of type constructors that stand for others there.
    """

    def __init__(self):
        self.count = 0
        self.schemes = {}
        self.types = []
        self.meanings = {}

    def fresh(self, name):
        """A new variable for a name of the program, or for the empty one."""
        self.count += 1
        return f"{name}.{self.count}"

    def use(self, x, ty):
        """A variable that is used at a type."""
        return ("var", x, types_within(self.schemes[x], ty) if x in self.schemes else ())


def express(site, env, e):
    """The core expression for a draft."""
    rule = RULES[e[0]]
    return rule(site, env, e)


def express_constant(site, env, e):
    """An integer or a string."""
    return e


def express_var(site, env, e):
    """A value."""
    kind, word = seek_path(env, None, e[1])
    ty = site.types[e[2]]
    if kind == "value":
        return site.use(word, ty)
    x = site.fresh("")
    return ("fn", x, ty[1], primitive(word, variable(x)))


def primitive(name, e):
    """A primitive, applied to a variable."""
    return ("prim", name, (("part", 0, e), ("part", 1, e)) if takes_pair(name) else (e,))


def express_con(site, env, e):
    """A constructor."""
    _, k, has_argument, place = e
    ty = site.types[place]
    if not has_argument:
        return ("con", ty[1], ty[2], k, None)
    x = site.fresh("")
    return ("fn", x, ty[1], ("con", ty[2][1], ty[2][2], k, variable(x)))


def express_exn(site, env, e):
    """An exception."""
    _, path, has_argument, place = e
    z = seek_path(env, CONSTRUCTOR, path)
    if not has_argument:
        return ("pack", z, None)
    x = site.fresh("")
    return ("fn", x, site.types[place][1], ("pack", z, variable(x)))


def express_tuple(site, env, e):
    """A tuple."""
    return ("tuple", tuple([express(site, env, part) for part in e[1]]))


def express_app(site, env, e):
    """An application."""
    _, function, argument = e
    if function[0] == "con":
        ty = site.types[function[3]][2]
        return ("con", ty[1], ty[2], function[1], express(site, env, argument))
    if function[0] == "exn":
        return ("pack", seek_path(env, CONSTRUCTOR, function[1]), express(site, env, argument))
    if function[0] == "var" and seek_path(env, None, function[1])[0] == "primitive":
        return express_primitive(site, env, function, argument)
    return ("apply", express(site, env, function), express(site, env, argument))


def express_primitive(site, env, function, argument):
    """An application of a primitive."""
    _, name = seek_path(env, None, function[1])
    if not takes_pair(name):
        return ("prim", name, (express(site, env, argument),))
    if argument[0] == "tuple":
        return ("prim", name, tuple([express(site, env, part) for part in argument[1]]))
    x = site.fresh("")
    declaration = ("let", x, (), site.types[function[2]][1], express(site, env, argument))
    return block([declaration], primitive(name, variable(x)))


def express_fn(site, env, e):
    """A function."""
    _, source, target = site.types[e[2]]
    x, body = express_rules(site, env, e[1], target, False)
    return ("fn", x, source, body)


def express_case(site, env, e):
    """A `case`."""
    _, subject, rules, place, result = e
    first = express(site, env, subject)
    x, body = express_rules(site, env, rules, site.types[result], False)
    return block([("let", x, (), site.types[place], first)], body)


def express_handle(site, env, e):
    """A `handle`."""
    _, first, rules, result = e
    protected = express(site, env, first)
    x, body = express_rules(site, env, rules, site.types[result], True)
    return ("handle", protected, x, body)


def express_rules(site, env, rules, ty, handles):
    """The variable that rules are for, and the expression of the type ty that they are."""
    x = site.fresh(name_of(rules[0][0]))
    # Without `handles` the checker knows that some rule fits.
    rest = ("raise", ty, variable(x) if handles else ("pack", "Overflow", None))
    is_small = True
    lets = []
    shared = {}
    share_parts(site, [pattern for pattern, _ in rules], x, lets, shared)
    for pattern, body in reversed(rules):
        steps = []
        found = {}
        plan(site, env, pattern, x, shared, steps, found)
        e = express(site, Environment(env, found), body)
        rest = tried(site, steps, e, rest, ty, is_small)
        is_small = False
    return x, block(lets, rest)


def express_if(site, env, e):
    """An `if`."""
    x = site.fresh("")
    test, yes, no = [express(site, env, part) for part in e[1:]]
    return block([("let", x, (), BOOL, test)], ("switch", x, ((0, None, no), (1, None, yes)), None))


def express_seq(site, env, e):
    """A sequence."""
    _, first, second, place = e
    declaration = ("let", site.fresh(""), (), site.types[place], express(site, env, first))
    return block([declaration], express(site, env, second))


def express_raise(site, env, e):
    """A `raise`."""
    return ("raise", site.types[e[2]], express(site, env, e[1]))


def express_let(site, env, e):
    """A `let`."""
    declarations = []
    for draft in e[1]:
        env = Environment(env, declared(site, env, draft, declarations))
    return block(declarations, express(site, env, e[2]))


def declared(site, env, draft, declarations):
    """The table of what a draft of a declaration declares. The core declarations for it are added to the list."""
    tag = draft[0]
    if tag == "val":
        return declared_val(site, env, draft, declarations)
    if tag == "fun":
        return declared_fun(site, env, draft, declarations)
    if tag == "exception":
        z = site.fresh(draft[1])
        declarations.append(("exception", z, realize(site.meanings, draft[2])))
        return {(CONSTRUCTOR, draft[1]): z}
    _, path, lows, exceptions, structures = draft
    opened = seek_path(env, STRUCTURE, path)
    table = {name: opened.seek(name) for name in lows}
    for name in exceptions:
        table[(CONSTRUCTOR, name)] = opened.seek((CONSTRUCTOR, name))
    for name in structures:
        table[(STRUCTURE, name)] = opened.seek((STRUCTURE, name))
    return table


def letters_of(site, entries):
    """The letters of a declaration: those of all the names that it declares, in the order of their types."""
    found = {}
    for _, place, quantified in entries:
        own = {letter(a): True for a in quantified}
        for name in (*variables(site.types[place]), *own):
            if name in own:
                found[name] = True
    return tuple(list(found))


def declared_val(site, env, draft, declarations):
    """As `declared`, for a `val`."""
    _, pattern, body, entries = draft
    letters = letters_of(site, entries)
    x = site.fresh(name_of(pattern))
    ty = site.types[pattern[-1]]
    declarations.append(("let", x, letters, ty, express(site, env, body)))
    site.schemes[x] = (letters, ty)
    if pattern[0] == "name":
        return {pattern[1]: ("value", x)}
    whole = ("var", x, tuple([("var", name) for name in letters]))
    table = {}
    for name, place, _ in entries:
        y = site.fresh(name)
        declarations.append(("let", y, letters, site.types[place], taken_out(site, pattern, name, whole)))
        site.schemes[y] = (letters, site.types[place])
        table[name] = ("value", y)
    return table


def has_name(draft, name):
    """Whether a name stands in a pattern."""
    work = [draft]
    while work:
        part = work.pop()
        if part[0] == "name" and part[1] == name:
            return True
        if part[0] == "ptuple":
            work.extend(part[1])
        elif part[0] == "pcon" and part[4] is not None:
            work.append(part[4])
    return False


def taken_out(site, draft, name, e):
    """What a name in a pattern is bound to, where e fits the pattern. Each constructor in it is the only one."""
    while draft[0] == "ptuple":
        places = [k for k, part in enumerate(draft[1]) if has_name(part, name)]
        e = ("part", places[0], e)
        draft = draft[1][places[0]]
    if draft[0] == "name":
        return e
    x = site.fresh("")
    y = site.fresh("")
    inner = taken_out(site, draft[4], name, variable(y))
    return block([("let", x, (), site.types[draft[-1]], e)], ("switch", x, ((draft[2], y, inner),), None))


def declared_fun(site, env, draft, declarations):
    """As `declared`, for a `fun`."""
    _, functions, entries = draft
    letters = letters_of(site, entries)
    table = {name: ("value", site.fresh(name)) for name, _ in functions}
    inner = Environment(env, table)
    group = []
    for (name, rules), (_, place, _) in zip(functions, entries):
        _, source, target = site.types[place]
        x, body = express_rules(site, inner, rules, target, False)
        group.append((table[name][1], letters, site.types[place], x, source, body))
    for f, _, ty, _, _, _ in group:
        site.schemes[f] = (letters, ty)
    declarations.append(("fix", tuple(group)))
    return table


RULES = {
    "int": express_constant, "string": express_constant, "var": express_var, "con": express_con,
    "exn": express_exn, "tuple": express_tuple, "app": express_app, "fn": express_fn, "case": express_case,
    "if": express_if, "let": express_let, "seq": express_seq, "raise": express_raise, "handle": express_handle,
}
