"""Whether a structure matches a signature (point 63)."""

from guanaco.errors import Mismatch, SignatureError
from guanaco.forms import equal_types
from guanaco.graph import ANY_LEVEL, Graph
from guanaco.meaning import letter_types, realized, replaced_constructors
from guanaco.monos import instance, variables
from guanaco.scope import CONSTRUCTOR, STRUCTURE, TY, VALUE


class Signature:
    """The description of a signature.

    `specified` has the type constructors that it specifies, in order: quadruples of the name, the path, the
    letters, and the constructors of a data type or None.
    """

    def __init__(self, scope, specified):
        self.scope = scope
        self.specified = specified


def match_signature(world, structure, signature):
    """The entries that the specified type constructors stand for in a structure, or SignatureError."""
    meanings = {}
    for name, path, letters, _ in signature.specified:
        entry = structure.seek(TY, path)
        if entry is None or len(entry[0]) != len(letters):
            raise SignatureError(-1)
        meanings[name] = entry
    for name, _, letters, constructors in signature.specified:
        if constructors is not None:
            check_data(world, meanings[name], (letters, constructors), meanings)
    check_structure(structure, realized(signature.scope, meanings, {}), {})
    return meanings


def check_data(world, entry, wanted, meanings):
    """Raises SignatureError unless the entry of a type stands for the wanted data type."""
    letters, ty = entry
    if ty[0] != "con" or ty[2] != letter_types(letters) or ty[1] not in world.data:
        raise SignatureError(-1)
    own_letters, own = world.data[ty[1]]
    wanted_letters, constructors = wanted
    others = replaced_constructors(constructors, meanings)
    if not own or [name for name, _ in own] != [name for name, _ in others]:
        raise SignatureError(-1)
    for (_, first), (_, second) in zip(own, others):
        check_equal((own_letters, first), (wanted_letters, second))


def check_equal(first, second):
    """Raises SignatureError unless two pairs of letters and a type or None are equal for all letters."""
    letters, ty = first
    other_letters, other_ty = second
    if len(letters) != len(other_letters) or (ty is None) != (other_ty is None):
        raise SignatureError(-1)
    if ty is not None and not equal_types(ty, instance((other_letters, other_ty), letter_types(letters))):
        raise SignatureError(-1)


def check_structure(structure, wanted, matched):
    """Raises SignatureError unless a structure has all that a realized signature has.

    `matched` has the pairs that were looked at already: structures and signatures may share others.
    """
    if (structure, wanted) in matched:
        return
    matched[(structure, wanted)] = True
    for kind in (TY, VALUE, CONSTRUCTOR, STRUCTURE):
        for name in wanted.names_of(kind):
            if not structure.has(kind, name):
                raise SignatureError(-1)
    for name in wanted.names_of(TY):
        check_equal(structure.entry(TY, name), wanted.entry(TY, name))
    for name in wanted.names_of(VALUE):
        check_instance(structure.entry(VALUE, name), wanted.entry(VALUE, name))
    for name in wanted.names_of(CONSTRUCTOR):
        check_constructor(structure.entry(CONSTRUCTOR, name), wanted.entry(CONSTRUCTOR, name))
    for name in wanted.names_of(STRUCTURE):
        check_structure(structure.entry(STRUCTURE, name), wanted.entry(STRUCTURE, name), matched)


def check_constructor(entry, wanted):
    """Raises SignatureError unless a constructor or an exception is as wanted."""
    kind, owner, letters, argument = entry
    wanted_kind, wanted_owner, wanted_letters, wanted_argument = wanted
    if kind != wanted_kind or (kind == "con" and owner != wanted_owner):
        raise SignatureError(-1)
    check_equal((letters, argument), (wanted_letters, wanted_argument))


def check_instance(entry, wanted):
    """Raises SignatureError unless the wanted type is an instance of the scheme of a value."""
    graph = Graph()
    fixed = {}
    for k, a in enumerate(variables(wanted[2])):
        fixed[a] = graph.node(("letter", f"{k}"), (), ANY_LEVEL)
    first = graph.enter(entry[2], {}, 0)
    second = graph.enter(wanted[2], fixed, 0)
    try:
        graph.unify(first, second)
    except Mismatch:
        raise SignatureError(-1) from None
