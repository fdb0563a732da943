"""Checking programs (points 24 to 32, 60 to 67 and 91)."""

from guanaco.cover import find_missing, find_unused
from guanaco.errors import Mismatch, ScopeError, SignatureError, Uncovered, Unused
from guanaco.expansion import check_expansion
from guanaco.forms import LARGEST_REPORTED, exceeds
from guanaco.infer import infer
from guanaco.meaning import constructor_function
from guanaco.monos import close
from guanaco.name_check import check_expression
from guanaco.scope import CONSTRUCTOR, STRUCTURE, TY, VALUE, Scope
from guanaco.scope_check import Outermost, check_outermost
from guanaco.sizes import Sizes
from guanaco.start import BASE_TYPES, DATA, EXCEPTIONS, primitive_schemes
from guanaco.structures import declare, declare_functor, describe_signature
from guanaco.trees import names
from guanaco.work import Work
from guanaco.world import World


def check(program):
    """The bindings and the data of a program, or an error."""
    return check_with(program, ())


def check_with(program, structures):
    """As `check`, with given structures: pairs of a name and pairs of a value's name and scheme."""
    world, bindings, _ = examine(program, structures)
    data = [(name, *world.data[name]) for name in world.made_types]
    return tuple(list(bindings.items())), (*DATA, *data)


def examine(program, structures):
    """Checks a program. What is known of it, the schemes of its values, and the drafts of its declarations.

    The draft of a functor is `("functor", functor)`, that of a signature is None.
    """
    check_expansion(program)
    world = World()
    scope = first_scope(world)
    for name, pairs in structures:
        scope.bind(STRUCTURE, name, given_structure(pairs))
    state = Outermost(names_alone(scope))
    sizes = Sizes(world)
    bindings = {}
    drafts = []
    for number, declaration in enumerate(program):
        check_names(number, state, declaration)
        reports, draft = declare_typed(number, sizes, scope, declaration)
        drafts.append(draft)
        for name, scheme in reports:
            bindings.pop(name, None)
            bindings[name] = scheme
        check_matches(number, world)
    return world, bindings, drafts


def principal(e):
    """The scheme of an expression at the start, closed over all of its variables."""
    world = World()
    scope = first_scope(world)
    try:
        check_expression(names_alone(scope), e)
        work = Work(world)
        node, _ = infer(work, scope, e)
        scheme = reported(work.ty_of(node, None))
        for kind, subject, patterns in work.matches:
            world.matches.append((kind, work.ty_of(subject, None), patterns))
    except ScopeError:
        raise ScopeError(0) from None
    except Mismatch:
        raise Mismatch(0) from None
    check_matches(0, world)
    return scheme


def first_scope(world):
    """The scope at the start."""
    scope = Scope()
    for name, (letters, ty) in primitive_schemes():
        scope.bind(VALUE, name, ("closed", letters, ty))
    for name, letters in BASE_TYPES:
        scope.bind(TY, name, constructor_function(name, letters))
    for name, letters, constructors in DATA:
        world.data[name] = (letters, constructors)
        for high, argument in constructors:
            scope.bind(CONSTRUCTOR, high, ("con", name, letters, argument))
    for name in EXCEPTIONS:
        world.exceptions[name] = None
        scope.bind(CONSTRUCTOR, name, ("exn", name, (), None))
    return scope


def given_structure(pairs):
    """The description of a structure that has the given values and nothing else."""
    found = Scope()
    for name, (letters, ty) in pairs:
        found.bind(VALUE, name, ("closed", letters, ty))
    return found


def names_alone(scope):
    """A scope with the names of another one, as the check of names looks at them."""
    found = Scope()
    for kind in (VALUE, CONSTRUCTOR):
        for name in scope.names_of(kind):
            found.bind(kind, name, True)
    for name in scope.names_of(TY):
        found.bind(TY, name, len(scope.entry(TY, name)[0]))
    for name in scope.names_of(STRUCTURE):
        found.bind(STRUCTURE, name, names_alone(scope.entry(STRUCTURE, name)))
    return found


def check_names(number, state, declaration):
    """Raises ScopeError if the names of a declaration are wrong."""
    try:
        check_outermost(state, declaration)
    except ScopeError:
        raise ScopeError(number) from None


def declare_typed(number, sizes, scope, declaration):
    """Declares what an outermost declaration declares.

    The names and schemes of the values that it reports, and its draft.
    """
    world = sizes.world
    try:
        if declaration[0] == "signature":
            world.signatures[declaration[1]] = describe_signature(world, scope, declaration[2])
            return [], None
        if declaration[0] == "functor":
            declare_functor(world, scope, declaration)
            return [], ("functor", world.functors[declaration[1]])
        declared, draft = declare(world, scope, declaration)
        scope.include(declared)
        sizes.look_at(draft)
        return [(name, reported(declared.entry(VALUE, name)[2])) for name in values_of(declaration)], draft
    except Mismatch:
        raise Mismatch(number) from None
    except SignatureError:
        raise SignatureError(number) from None


def values_of(declaration):
    """The list of the values that a `val` or a `fun` binds; none for other declarations."""
    if declaration[0] == "val":
        return names(declaration[1])
    if declaration[0] == "fun":
        return [name for name, _ in declaration[1]]
    return []


def reported(ty):
    """The scheme of a type that is reported."""
    if exceeds(ty, LARGEST_REPORTED):
        raise Mismatch(-1)
    return close(ty)


def check_matches(number, world):
    """Raises Unused or Uncovered for the first match of a declaration that is wrong."""
    table = world.known_data()
    for kind, ty, patterns in world.matches:
        if find_unused(table, ty, patterns) is not None:
            raise Unused(number)
        gap = None if kind == "handle" else find_missing(table, ty, patterns)
        if gap is not None:
            raise Uncovered(number, gap)
    world.matches.clear()
