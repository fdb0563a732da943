"""What a program does: the evaluator of its syntax tree (points 7 and 40 to 45)."""

from guanaco.environment import CONSTRUCTOR, FUNCTOR, SIGNATURE, STRUCTURE
from guanaco.environment import Environment, Place, Structure, seek_path
from guanaco.evaluation import STUCK, Machine, declare_local
from guanaco.primitives import EFFECTS, OPERATIONS
from guanaco.store import Ended
from guanaco.value_trees import value_tree


class Wanted:
    """A signature: the names of values, constructors and exceptions, and of structures with their signatures."""

    def __init__(self):
        self.lows = []
        self.constructors = []
        self.structures = []


def run(program, fuel):
    """The run of a program."""
    machine = Machine(fuel)
    place = Place(first_environment(machine))
    for declaration in reversed(program):
        machine.later(declare, declaration, place)
    try:
        machine.go()
    except Ended as error:
        return tuple(machine.ledger.outputs), shown_end(error.end)
    bindings = [(name, value_tree(value, look)) for name, value in place.bound.items()]
    return tuple(machine.ledger.outputs), ("done", tuple(bindings))


def shown_end(end):
    """The end of a run that did not come to the last declaration."""
    if end[0] != "raised":
        return end
    _, exception, argument = end[1]
    return ("raised", exception.name, None if argument is None else value_tree(argument, look))


def look(value):
    """What a value is, for its value tree."""
    kind, *rest = value
    if kind in ("int", "string"):
        return kind, rest[0], ()
    if kind == "tuple":
        return "tuple", None, rest[0]
    if kind == "ref":
        return "ref", None, (rest[0].content,)
    if kind in ("con", "exn"):
        word = rest[0] if kind == "con" else rest[0].name
        return kind, word, () if rest[1] is None else (rest[1],)
    return "fn", None, ()


def first_environment(machine):
    """What is in scope at the start."""
    table = {name: ("primitive", name) for name in [*list(OPERATIONS), *EFFECTS]}
    for name, has_argument in (("False", False), ("True", False), ("Nil", False), ("Cons", True)):
        table[(CONSTRUCTOR, name)] = ("con", name, has_argument)
    for name, exception in machine.base.items():
        table[(CONSTRUCTOR, name)] = ("exn", exception, False)
    return Environment(None, table)


def declare(machine, declaration, place):
    """Evaluates a declaration that is outermost or in a `struct`."""
    tag = declaration[0]
    if tag == "structure":
        machine.later(end_structure, declaration[1], place)
        machine.later(build, declaration[2], place.env)
    elif tag == "datatype":
        table = {}
        for _, _, constructors in declaration[1]:
            for name, ty in constructors:
                table[(CONSTRUCTOR, name)] = ("con", name, ty is not None)
        place.declare(table)
    elif tag == "signature":
        place.declare({(SIGNATURE, declaration[1]): signature_of(place.env, declaration[2])})
    elif tag == "functor":
        place.declare({(FUNCTOR, declaration[1]): (*declaration[2:], place.env)})
    elif tag != "alias":
        declare_local(machine, declaration, place)


def end_structure(machine, name, place):
    """Declares a structure."""
    place.declare({(STRUCTURE, name): machine.done.pop()})


def build(machine, s, env):
    """Finds the structure of a structure expression."""
    tag = s[0]
    if tag == "struct":
        place = Place(env)
        machine.later(end_struct, None, place)
        for declaration in reversed(s[1]):
            machine.later(declare, declaration, place)
    elif tag == "path":
        machine.done.append(needed(env, STRUCTURE, s[1]))
    elif tag == "apply":
        machine.later(end_apply, s[1], env)
        machine.later(build, s[2], env)
    else:
        machine.later(end_seal, s[2], env)
        machine.later(build, s[1], env)


def needed(env, kind, path):
    """What a path leads to. The run is stuck if there is nothing."""
    found = seek_path(env, kind, path)
    if found is None:
        raise Ended(STUCK)
    return found


def end_struct(machine, what, place):
    """The end of a `struct`."""
    machine.done.append(Structure(place.found))


def end_seal(machine, g, env):
    """Restricts a structure that is sealed."""
    structure = machine.done.pop()
    machine.done.append(restricted(structure, signature_of(env, g), {}))


def end_apply(machine, name, env):
    """Applies a functor."""
    argument = machine.done.pop()
    parameter, g, body, outer = needed(env, FUNCTOR, (name,))
    structure = restricted(argument, signature_of(outer, g), {})
    machine.later(build, body, Environment(outer, {(STRUCTURE, parameter): structure}))


def signature_of(env, g):
    """What a signature expression asks for."""
    if g[0] == "signame":
        return needed(env, SIGNATURE, (g[1],))
    if g[0] == "where":
        return signature_of(env, g[1])
    wanted = Wanted()
    for specification in g[1]:
        tag, name, *rest = specification
        if tag == "sval":
            wanted.lows.append(name)
        elif tag == "sdata":
            for _, _, constructors in name:
                wanted.constructors.extend([("con", high) for high, _ in constructors])
        elif tag == "sexn":
            wanted.constructors.append(("exn", name))
        elif tag == "sstr":
            wanted.structures.append((name, signature_of(env, rest[0])))
    return wanted


def restricted(structure, wanted, known):
    """A structure with only what a signature asks for. `known` has what was restricted: structures may be shared."""
    if (structure, wanted) in known:
        return known[(structure, wanted)]
    table = {}
    for name in wanted.lows:
        table[name] = needed(structure, None, (name,))
    for kind, name in wanted.constructors:
        entry = needed(structure, CONSTRUCTOR, (name,))
        if entry[0] != kind:
            raise Ended(STUCK)
        table[(CONSTRUCTOR, name)] = entry
    for name, inner in wanted.structures:
        found = needed(structure, STRUCTURE, (name,))
        table[(STRUCTURE, name)] = restricted(found, inner, known)
    known[(structure, wanted)] = Structure(table)
    return known[(structure, wanted)]
