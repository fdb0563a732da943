"""The descriptions of declarations, structures and signatures (points 60 to 66)."""

from guanaco.errors import SignatureError
from guanaco.forms import UNIT
from guanaco.infer import Work, declare_local
from guanaco.matching import Signature, match_signature
from guanaco.meaning import constructor_function, meaning, meaning_or_none
from guanaco.meaning import realized, replaced, replaced_constructors
from guanaco.monos import variables
from guanaco.scope import CONSTRUCTOR, STRUCTURE, TY, VALUE, Scope


class Functor:
    """The parameter's signature and the description of the body, with what was made while it was checked."""

    def __init__(self, signature, body, made_types, made_exceptions):
        self.signature = signature
        self.body = body
        self.made_types = made_types
        self.made_exceptions = made_exceptions


def declare(world, scope, declaration):
    """A scope with what a declaration declares that is outermost or in a struct, but no functor or signature."""
    tag = declaration[0]
    if tag == "datatype":
        return declare_datatypes(world, scope, declaration[1])
    found = Scope()
    if tag == "alias":
        _, letters, name, ty = declaration
        found.bind(TY, name, (letters, meaning(scope, ty)))
        return found
    if tag == "structure":
        found.bind(STRUCTURE, declaration[1], describe(world, scope, declaration[2]))
        return found
    work = Work(world)
    declared = declare_local(work, scope, declaration)
    for kind, node, patterns in work.matches:
        world.matches.append((kind, work.ty_of(node, UNIT), patterns))
    if tag not in ("val", "fun"):
        return declared
    for name in declared.names_of(VALUE):
        ty = work.ty_of(declared.entry(VALUE, name)[1], UNIT)
        found.bind(VALUE, name, ("closed", tuple(variables(ty)), ty))
    return found


def declare_functor(world, scope, declaration):
    """Describes a functor and declares it."""
    _, name, parameter, g, s = declaration
    outer_types, outer_exceptions = world.made_types, world.made_exceptions
    world.reports = False
    signature = describe_signature(world, scope, g)
    world.made_types = []
    world.made_exceptions = []
    for made, _, letters, constructors in signature.specified:
        world.define(made, letters, constructors or ())
    inner = scope.inner()
    exceptions = renewed_exceptions(world, exceptions_of(signature.scope), {})
    inner.bind(STRUCTURE, parameter, realized(signature.scope, {}, exceptions))
    body = describe(world, inner, s)
    world.functors[name] = Functor(signature, body, world.made_types, world.made_exceptions)
    world.made_types = outer_types
    world.made_exceptions = outer_exceptions
    world.reports = True


def describe(world, scope, s):
    """The description of a structure expression."""
    tag = s[0]
    if tag == "path":
        return scope.seek(STRUCTURE, s[1])
    if tag == "apply":
        argument = describe(world, scope, s[2])
        return apply_functor(world, world.functors[s[1]], argument)
    if tag == "seal":
        structure = describe(world, scope, s[1])
        return seal_structure(world, structure, describe_signature(world, scope, s[2]), s[3])
    found = Scope()
    inner = scope.inner()
    for declaration in s[1]:
        declared = declare(world, inner, declaration)
        inner.include(declared)
        found.include(declared)
    return found


def apply_functor(world, functor, argument):
    """The description of the application of a functor to a structure."""
    meanings = match_signature(world, argument, functor.signature)
    made = []
    for name in functor.made_types:
        letters, constructors = world.data[name]
        meanings[name] = constructor_function(world.make_ty(name), letters)
        made.append((meanings[name], constructors))
    define_all(world, made, meanings)
    arguments = {name: world.exceptions[name] for name in functor.made_exceptions}
    exceptions = renewed_exceptions(world, arguments, meanings)
    return realized(functor.body, meanings, exceptions)


def define_all(world, made, meanings):
    """Tells what new type constructors are, from pairs of the entry and the constructors before replacing."""
    for (letters, ty), constructors in made:
        world.define(ty[1], letters, replaced_constructors(constructors, meanings))


def renewed_exceptions(world, arguments, meanings):
    """The dict from exceptions to new ones, from the types of their arguments before replacing."""
    renewed = {}
    for name, argument in arguments.items():
        renewed[name] = world.make_exception(name, replaced(argument, meanings))
    return renewed


def exceptions_of(scope):
    """The dict from the exceptions in a scope and its structures to the types of their arguments."""
    found = {}
    seen = {}
    work = [scope]
    while work:
        place = work.pop()
        if place in seen:
            continue
        seen[place] = True
        for name in place.names_of(CONSTRUCTOR):
            kind, owner, _, argument = place.entry(CONSTRUCTOR, name)
            if kind == "exn":
                found[owner] = argument
        for name in place.names_of(STRUCTURE):
            work.append(place.entry(STRUCTURE, name))
    return found


def seal_structure(world, structure, signature, opaque):
    """The description of a structure that is sealed by a signature."""
    meanings = match_signature(world, structure, signature)
    if opaque:
        meanings = renewed_types(world, signature, True)
    exceptions = renewed_exceptions(world, exceptions_of(signature.scope), meanings)
    return realized(signature.scope, meanings, exceptions)


def renewed_types(world, signature, makes):
    """The entries of new type constructors for those that a signature specifies.

    If `makes` is True, these are made for the program; otherwise they are only for another description.
    """
    meanings = {}
    made = []
    for name, _, letters, constructors in signature.specified:
        new = world.make_ty(name) if makes else world.new_name(name)
        meanings[name] = constructor_function(new, letters)
        made.append((meanings[name], constructors or ()))
    if makes:
        define_all(world, made, meanings)
    return meanings


def datatype_scope(world, scope, bindings, makes):
    """A scope with the data types of a declaration or specification, and their names, letters and constructors."""
    found = Scope()
    named = []
    for letters, name, pairs in bindings:
        made = world.make_ty(name) if makes else world.new_name(name)
        found.bind(TY, name, constructor_function(made, letters))
        named.append((made, letters, pairs))
    inner = scope.inner()
    inner.include(found)
    defined = []
    for made, letters, pairs in named:
        constructors = tuple([(name, meaning_or_none(inner, ty)) for name, ty in pairs])
        defined.append((made, letters, constructors))
        for name, argument in constructors:
            found.bind(CONSTRUCTOR, name, ("con", made, letters, argument))
    return found, defined


def declare_datatypes(world, scope, bindings):
    """A scope with the data types of a declaration."""
    found, defined = datatype_scope(world, scope, bindings, True)
    for made, letters, constructors in defined:
        world.define(made, letters, constructors)
    return found


def describe_signature(world, scope, g):
    """The description of a signature expression, with type constructors of its own."""
    if g[0] == "signame":
        signature = world.signatures[g[1]]
        exceptions = {name: world.new_name(name) for name in exceptions_of(signature.scope)}
        if not exceptions and not signature.specified:
            return signature
        return respecified(signature, renewed_types(world, signature, False), exceptions, ())
    if g[0] == "where":
        return refined(world, scope, g)
    found = Scope()
    specified = []
    inner = scope.inner()
    for specification in g[1]:
        part = specify(world, inner, specification)
        inner.include(part.scope)
        found.include(part.scope)
        specified.extend(part.specified)
    return Signature(found, specified)


def respecified(signature, meanings, exceptions, dropped):
    """A signature in which types and exceptions are replaced; types in `dropped` are no longer specified."""
    specified = []
    for name, path, letters, constructors in signature.specified:
        if name in dropped:
            continue
        if name in meanings:
            name = meanings[name][1][1]
        if constructors is not None:
            constructors = replaced_constructors(constructors, meanings)
        specified.append((name, path, letters, constructors))
    return Signature(realized(signature.scope, meanings, exceptions), specified)


def refined(world, scope, g):
    """The description of a `where`."""
    _, inner, path, letters, ty = g
    signature = describe_signature(world, scope, inner)
    for name, place, _, constructors in signature.specified:
        if place == path and constructors is None:
            meanings = {name: (letters, meaning(scope, ty))}
            return respecified(signature, meanings, {}, (name,))
    raise SignatureError(-1)


def specify(world, scope, specification):
    """The description of a signature with one specification."""
    tag = specification[0]
    if tag == "sdata":
        found, defined = datatype_scope(world, scope, specification[1], False)
        specified = []
        for (_, name, _), (made, letters, constructors) in zip(specification[1], defined):
            specified.append((made, (name,), letters, constructors))
        return Signature(found, specified)
    if tag == "stype":
        return specify_ty(world, scope, specification)
    found = Scope()
    specified = []
    if tag == "sval":
        ty = meaning(scope, specification[2])
        found.bind(VALUE, specification[1], ("closed", tuple(variables(ty)), ty))
    elif tag == "sexn":
        argument = meaning_or_none(scope, specification[2])
        made = world.new_name(specification[1])
        found.bind(CONSTRUCTOR, specification[1], ("exn", made, (), argument))
    else:
        name = specification[1]
        signature = describe_signature(world, scope, specification[2])
        found.bind(STRUCTURE, name, signature.scope)
        specified = [(made, (name, *path), letters, data) for made, path, letters, data in signature.specified]
    return Signature(found, specified)


def specify_ty(world, scope, specification):
    """The description of a signature with one specification of a type."""
    _, letters, name, ty = specification
    found = Scope()
    if ty is not None:
        found.bind(TY, name, (letters, meaning(scope, ty)))
        return Signature(found, [])
    made = world.new_name(name)
    found.bind(TY, name, constructor_function(made, letters))
    return Signature(found, [(made, (name,), letters, None)])
