"""The evaluation of expressions by their syntax trees (points 40 to 45).

Values are `("int", n)`, `("string", s)`, `("tuple", values)`, `("con", name, value or None)`,
`("exn", exception, value or None)`, `("closure", rules, environment)`, `("primitive", name)`, `("ref", cell)`, and
`("maker", kind, name or exception)` for a constructor or an exception that is to be applied to an argument.
"""

from guanaco.environment import CONSTRUCTOR, STRUCTURE, Environment, Exn, Place, seek_path
from guanaco.primitives import LONGEST_STRING, Raised, in_range, takes_pair
from guanaco.store import Ended, Store
from guanaco.trees import names

STUCK = ("stuck",)


class Machine:
    """A run: what is to be done, the last thing first, and the values that were found for it.

    What is to be done is a triple of a function of this package, what it is about, and an environment or a place.
    """

    def __init__(self, fuel):
        yes = ("con", "True", None)
        no = ("con", "False", None)
        self.ledger = Store(fuel, no, yes, ("tuple", ()))
        self.base = {name: Exn(name) for name in ("Overflow", "Div", "Size", "Subscript")}
        self.work = []
        self.done = []

    def go(self):
        """Does all that is to be done."""
        while self.work:
            action, what, env = self.work.pop()
            action(self, what, env)

    def later(self, action, what, env):
        """Notes what is to be done next."""
        self.work.append((action, what, env))


def evaluate(machine, e, env):
    """Finds the value of an expression."""
    rule = EXPRESSIONS[e[0]]
    rule(machine, e, env)


def evaluate_int(machine, e, env):
    """An integer."""
    if not in_range(e[1]):
        raise Ended(STUCK)
    machine.done.append(e)


def evaluate_string(machine, e, env):
    """A string."""
    if len(e[1]) > LONGEST_STRING:
        raise Ended(STUCK)
    machine.done.append(e)


def evaluate_var(machine, e, env):
    """A value."""
    value = seek_path(env, None, e[1])
    if value is None:
        raise Ended(STUCK)
    machine.done.append(value)


def constructor_at(env, path):
    """The kind, the name or exception, and whether there is an argument."""
    entry = seek_path(env, CONSTRUCTOR, path)
    if entry is None:
        raise Ended(STUCK)
    return entry


def evaluate_con(machine, e, env):
    """A constructor or an exception."""
    kind, made, has_argument = constructor_at(env, e[1])
    machine.done.append(("maker", kind, made) if has_argument else (kind, made, None))


def evaluate_tuple(machine, e, env):
    """A tuple."""
    machine.later(end_tuple, len(e[1]), env)
    for part in reversed(e[1]):
        machine.later(evaluate, part, env)


def end_tuple(machine, count, env):
    """Makes a tuple of the last values."""
    first = len(machine.done) - count
    parts = tuple(machine.done[first:])
    del machine.done[first:]
    machine.done.append(("tuple", parts))


def evaluate_app(machine, e, env):
    """An application."""
    machine.later(end_app, None, env)
    machine.later(evaluate, e[2], env)
    evaluate(machine, e[1], env)


def end_app(machine, what, env):
    """Applies a function."""
    argument = machine.done.pop()
    function = machine.done.pop()
    kind = function[0]
    if kind == "closure":
        machine.ledger.spend()
        take_rule(machine, function[1], function[2], argument)
    elif kind == "primitive":
        machine.ledger.spend()
        apply_primitive(machine, function[1], argument)
    elif kind == "maker":
        machine.done.append((function[1], function[2], argument))
    else:
        raise Ended(STUCK)


def apply_primitive(machine, name, argument):
    """Applies a primitive."""
    parts = (argument,)
    if takes_pair(name):
        if argument[0] != "tuple" or len(argument[1]) != 2:
            raise Ended(STUCK)
        parts = argument[1]
    try:
        machine.done.append(machine.ledger.primitive(name, parts))
    except Raised as error:
        throw(machine, ("exn", machine.base[error.name], None))


def take_rule(machine, rules, env, value):
    """Goes on with the first rule that fits a value. It is stuck if there is none."""
    if not find_rule(machine, rules, env, value):
        raise Ended(STUCK)


def find_rule(machine, rules, env, value):
    """Goes on with the first rule that fits a value, and tells whether there is one."""
    for pattern, body in rules:
        found = {}
        if fits(env, pattern, value, found):
            machine.later(evaluate, body, Environment(env, found))
            return True
    return False


def fits(env, pattern, value, found):
    """Whether a value fits a pattern. What the names in it are bound to is added to `found`."""
    tag = pattern[0]
    if tag == "pcon":
        return fits_constructor(env, pattern, value, found)
    if tag == "ptuple":
        if value[0] != "tuple" or len(value[1]) != len(pattern[1]):
            return False
        for part, inner in zip(pattern[1], value[1]):
            if not fits(env, part, inner, found):
                return False
        return True
    if tag == "pint":
        return value[0] == "int" and value[1] == pattern[1]
    if tag == "pstring":
        return value[0] == "string" and value[1] == pattern[1]
    if tag == "name":
        found[pattern[1]] = value
    return True


def fits_constructor(env, pattern, value, found):
    """As `fits`, for a pattern with a constructor or an exception."""
    kind, made, _ = constructor_at(env, pattern[1])
    if value[0] != kind or value[1] != made:
        return False
    if pattern[2] is None or value[2] is None:
        return pattern[2] is None and value[2] is None
    return fits(env, pattern[2], value[2], found)


def evaluate_fn(machine, e, env):
    """A function."""
    machine.done.append(("closure", e[1], env))


def evaluate_case(machine, e, env):
    """A `case`."""
    machine.later(end_case, e[2], env)
    evaluate(machine, e[1], env)


def end_case(machine, rules, env):
    """Goes on with a rule of a `case`."""
    take_rule(machine, rules, env, machine.done.pop())


def evaluate_if(machine, e, env):
    """An `if`."""
    machine.later(end_if, e, env)
    evaluate(machine, e[1], env)


def end_if(machine, e, env):
    """Goes on with a branch of an `if`."""
    test = machine.done.pop()
    if test[0] != "con" or test[1] not in ("True", "False") or test[2] is not None:
        raise Ended(STUCK)
    evaluate(machine, e[2] if test[1] == "True" else e[3], env)


def evaluate_let(machine, e, env):
    """A `let`."""
    place = Place(env)
    machine.later(end_let, e[2], place)
    for declaration in reversed(e[1]):
        machine.later(declare_local, declaration, place)


def end_let(machine, e, place):
    """Goes on with the body of a `let`."""
    evaluate(machine, e, place.env)


def evaluate_seq(machine, e, env):
    """A sequence."""
    machine.later(end_first, e[2], env)
    evaluate(machine, e[1], env)


def end_first(machine, e, env):
    """Goes on with the second part of a sequence."""
    machine.done.pop()
    evaluate(machine, e, env)


def evaluate_raise(machine, e, env):
    """A `raise`."""
    machine.later(end_raise, None, env)
    evaluate(machine, e[1], env)


def end_raise(machine, what, env):
    """Raises an exception."""
    value = machine.done.pop()
    if value[0] != "exn":
        raise Ended(STUCK)
    throw(machine, value)


def throw(machine, value):
    """Goes on with the rule of a `handle` that takes an exception."""
    while machine.work:
        action, what, env = machine.work.pop()
        if action == end_handle:
            rules, height = what
            del machine.done[height:]
            if find_rule(machine, rules, env, value):
                return
    # Kept as a value: its tree is made at the end.
    raise Ended(("raised", value))


def evaluate_handle(machine, e, env):
    """A `handle`."""
    machine.later(end_handle, (e[2], len(machine.done)), env)
    evaluate(machine, e[1], env)


def end_handle(machine, what, env):
    """The end of what a `handle` protects: its value is that of the `handle`."""


def evaluate_typed(machine, e, env):
    """An expression with its type."""
    evaluate(machine, e[1], env)


def declare_local(machine, declaration, place):
    """Evaluates a declaration that may stand in a `let`."""
    tag = declaration[0]
    if tag == "val":
        machine.later(end_val, declaration[1], place)
        evaluate(machine, declaration[2], place.env)
    elif tag == "fun":
        env = Environment(place.env, {})
        for name, rules in declaration[1]:
            env.table[name] = ("closure", rules, env)
        place.enter(env)
        place.bind([name for name, _ in declaration[1]])
    elif tag == "exception":
        entry = ("exn", Exn(declaration[1]), declaration[2] is not None)
        place.declare({(CONSTRUCTOR, declaration[1]): entry})
    else:
        structure = seek_path(place.env, STRUCTURE, declaration[1])
        if structure is None:
            raise Ended(STUCK)
        place.declare(structure.table)


def end_val(machine, pattern, place):
    """Binds the names of a `val`."""
    found = {}
    if not fits(place.env, pattern, machine.done.pop(), found):
        raise Ended(STUCK)
    place.declare(found)
    place.bind(names(pattern))


EXPRESSIONS = {
    "int": evaluate_int, "string": evaluate_string, "var": evaluate_var, "con": evaluate_con,
    "tuple": evaluate_tuple, "app": evaluate_app, "fn": evaluate_fn, "case": evaluate_case, "if": evaluate_if,
    "let": evaluate_let, "seq": evaluate_seq, "raise": evaluate_raise, "handle": evaluate_handle,
    "typed": evaluate_typed,
}
