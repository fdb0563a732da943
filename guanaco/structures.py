"""The descriptions of declarations, structures and signatures (points 60 to 66).

With its description each structure has a draft, which elaboration needs: `("struct", drafts of declarations)`,
`("path", path)`, `("apply", functor, draft, meanings)` with the entries that type constructors of the functor stand
for, and `("seal", draft, hidden)` with the entries that new type constructors of an opaque seal stand for in the
structure. Those of declarations are `("value", draft, types)` with the draft of `infer` and the types that it notes,
`("structure", name, draft)`, and None for others.
"""

from guanaco.errors import SignatureError
from guanaco.forms import UNIT
from guanaco.infer import declare_local
from guanaco.matching import Signature, match_signature
from guanaco.meaning import constructor_function, meaning, meaning_or_none
from guanaco.meaning import realized, replaced, replaced_constructors
from guanaco.monos import variables
from guanaco.scope import CONSTRUCTOR, STRUCTURE, TY, VALUE, Scope
from guanaco.work import Work


class Functor:
    """The parameter with its signature, and the body with what was made while it was checked."""

    def __init__(self, parameter, signature, body, draft):
        self.parameter = parameter
        self.signature = signature
        self.body = body
        self.draft = draft
        self.made_types = []
        self.made_exceptions = []


def declare(world, scope, declaration):
    """A scope with what a declaration declares that is outermost or in a struct, and its draft.

    The declaration is no functor and no signature.
    """
    tag = declaration[0]
    if tag == "datatype":
        return declare_datatypes(world, scope, declaration[1]), None
    found = Scope()
    if tag == "alias":
        _, letters, name, ty = declaration
        found.bind(TY, name, (letters, meaning(scope, ty)))
        return found, None
    if tag == "structure":
        description, draft = describe(world, scope, declaration[2])
        found.bind(STRUCTURE, declaration[1], description)
        return found, ("structure", declaration[1], draft)
    return declare_value(world, scope, declaration)


def declare_value(world, scope, declaration):
    """As `declare`, for a declaration that may stand in a `let`."""
    work = Work(world)
    declared, draft = declare_local(work, scope, declaration)
    for kind, node, patterns in work.matches:
        world.matches.append((kind, work.ty_of(node, UNIT), patterns))
    types = work.noted_types()
    if declaration[0] not in ("val", "fun"):
        return declared, ("value", draft, types)
    found = Scope()
    for name, place, _ in draft[-1]:
        ty = types[place]
        found.bind(VALUE, name, ("closed", tuple(variables(ty)), ty))
    return found, ("value", draft, types)


def declare_functor(world, scope, declaration):
    """Describes a functor and declares it."""
    _, name, parameter, g, s = declaration
    outer_types, outer_exceptions = world.made_types, world.made_exceptions
    world.reports = False
    signature = describe_signature(world, scope, g)
    world.made_types = []
    world.made_exceptions = []
    for made, _, letters, constructors in signature.specified:
        world.define(made, letters, constructors or ())
    inner = scope.inner()
    exceptions = renewed_exceptions(world, exceptions_of(signature.scope), {})
    inner.bind(STRUCTURE, parameter, realized(signature.scope, {}, exceptions))
    body, draft = describe(world, inner, s)
    functor = Functor(parameter, signature, body, draft)
    functor.made_types = world.made_types
    functor.made_exceptions = world.made_exceptions
    world.functors[name] = functor
    world.made_types = outer_types
    world.made_exceptions = outer_exceptions
    world.reports = True


def describe(world, scope, s):
    """The description of a structure expression, and its draft."""
    tag = s[0]
    if tag == "path":
        return scope.seek(STRUCTURE, s[1]), s
    if tag == "apply":
        argument, draft = describe(world, scope, s[2])
        functor = world.functors[s[1]]
        description, meanings = apply_functor(world, functor, argument)
        return description, ("apply", functor, draft, meanings)
    if tag == "seal":
        structure, draft = describe(world, scope, s[1])
        description, hidden = seal_structure(world, structure, describe_signature(world, scope, s[2]), s[3])
        return description, ("seal", draft, hidden)
    found = Scope()
    inner = scope.inner()
    drafts = []
    for declaration in s[1]:
        declared, draft = declare(world, inner, declaration)
        inner.include(declared)
        found.include(declared)
        drafts.append(draft)
    return found, ("struct", tuple(drafts))


def apply_functor(world, functor, argument):
    """The description of the application of a functor to a structure, and what its type constructors stand for."""
    meanings = match_signature(world, argument, functor.signature)
    made = []
    for name in functor.made_types:
        letters, constructors = world.data[name]
        new = world.make_ty(name)
        if name in world.hidden:
            world.hidden[new] = True
        meanings[name] = constructor_function(new, letters)
        made.append((meanings[name], constructors))
    define_all(world, made, meanings)
    arguments = {name: world.exceptions[name] for name in functor.made_exceptions}
    exceptions = renewed_exceptions(world, arguments, meanings)
    return realized(functor.body, meanings, exceptions), meanings


def define_all(world, made, meanings):
    """Tells what new type constructors are, from pairs of the entry and the constructors before replacing."""
    for (letters, ty), constructors in made:
        world.define(ty[1], letters, replaced_constructors(constructors, meanings))


def renewed_exceptions(world, arguments, meanings):
    """The dict from exceptions to new ones, from the types of their arguments before replacing."""
    renewed = {}
    for name, argument in arguments.items():
        renewed[name] = world.make_exception(name, replaced(argument, meanings))
    return renewed


def exceptions_of(scope):
    """The dict from the exceptions in a scope and its structures to the types of their arguments."""
    found = {}
    seen = {}
    work = [scope]
    while work:
        place = work.pop()
        if place in seen:
            continue
        seen[place] = True
        for name in place.names_of(CONSTRUCTOR):
            kind, owner, _, argument = place.entry(CONSTRUCTOR, name)
            if kind == "exn":
                found[owner] = argument
        for name in place.names_of(STRUCTURE):
            work.append(place.entry(STRUCTURE, name))
    return found


def seal_structure(world, structure, signature, opaque):
    """The description of a structure that is sealed by a signature, and what the types that this hides stand for."""
    meanings = match_signature(world, structure, signature)
    hidden = {}
    if opaque:
        actual = meanings
        meanings = renewed_types(world, signature, True)
        for name, entry in meanings.items():
            world.hidden[entry[1][1]] = True
            hidden[entry[1][1]] = actual[name]
    exceptions = renewed_exceptions(world, exceptions_of(signature.scope), meanings)
    return realized(signature.scope, meanings, exceptions), hidden


def renewed_types(world, signature, makes):
    """The entries of new type constructors for those that a signature specifies.

    If `makes` is True, these are made for the program; otherwise they are only for another description.
    """
    meanings = {}
    made = []
    for name, _, letters, constructors in signature.specified:
        new = world.make_ty(name) if makes else world.new_name(name)
        meanings[name] = constructor_function(new, letters)
        made.append((meanings[name], constructors or ()))
    if makes:
        define_all(world, made, meanings)
    return meanings


def datatype_scope(world, scope, bindings, makes):
    """A scope with the data types of a declaration or specification, and their names, letters and constructors."""
    found = Scope()
    named = []
    for letters, name, pairs in bindings:
        made = world.make_ty(name) if makes else world.new_name(name)
        found.bind(TY, name, constructor_function(made, letters))
        named.append((made, letters, pairs))
    inner = scope.inner()
    inner.include(found)
    defined = []
    for made, letters, pairs in named:
        constructors = tuple([(name, meaning_or_none(inner, ty)) for name, ty in pairs])
        defined.append((made, letters, constructors))
        for name, argument in constructors:
            found.bind(CONSTRUCTOR, name, ("con", made, letters, argument))
    return found, defined


def declare_datatypes(world, scope, bindings):
    """A scope with the data types of a declaration."""
    found, defined = datatype_scope(world, scope, bindings, True)
    for made, letters, constructors in defined:
        world.define(made, letters, constructors)
    return found


def describe_signature(world, scope, g):
    """The description of a signature expression, with type constructors of its own."""
    if g[0] == "signame":
        signature = world.signatures[g[1]]
        exceptions = {name: world.new_name(name) for name in exceptions_of(signature.scope)}
        if not exceptions and not signature.specified:
            return signature
        return respecified(signature, renewed_types(world, signature, False), exceptions, ())
    if g[0] == "where":
        return refined(world, scope, g)
    found = Scope()
    specified = []
    inner = scope.inner()
    for specification in g[1]:
        part = specify(world, inner, specification)
        inner.include(part.scope)
        found.include(part.scope)
        specified.extend(part.specified)
    return Signature(found, specified)


def respecified(signature, meanings, exceptions, dropped):
    """A signature in which types and exceptions are replaced; types in `dropped` are no longer specified."""
    specified = []
    for name, path, letters, constructors in signature.specified:
        if name in dropped:
            continue
        if name in meanings:
            name = meanings[name][1][1]
        if constructors is not None:
            constructors = replaced_constructors(constructors, meanings)
        specified.append((name, path, letters, constructors))
    return Signature(realized(signature.scope, meanings, exceptions), specified)


def refined(world, scope, g):
    """The description of a `where`."""
    _, inner, path, letters, ty = g
    signature = describe_signature(world, scope, inner)
    for name, place, _, constructors in signature.specified:
        if place == path and constructors is None:
            meanings = {name: (letters, meaning(scope, ty))}
            return respecified(signature, meanings, {}, (name,))
    raise SignatureError(-1)


def specify(world, scope, specification):
    """The description of a signature with one specification."""
    tag = specification[0]
    if tag == "sdata":
        found, defined = datatype_scope(world, scope, specification[1], False)
        specified = []
        for (_, name, _), (made, letters, constructors) in zip(specification[1], defined):
            specified.append((made, (name,), letters, constructors))
        return Signature(found, specified)
    if tag == "stype":
        return specify_ty(world, scope, specification)
    found = Scope()
    specified = []
    if tag == "sval":
        ty = meaning(scope, specification[2])
        found.bind(VALUE, specification[1], ("closed", tuple(variables(ty)), ty))
    elif tag == "sexn":
        argument = meaning_or_none(scope, specification[2])
        made = world.new_name(specification[1])
        found.bind(CONSTRUCTOR, specification[1], ("exn", made, (), argument))
    else:
        name = specification[1]
        signature = describe_signature(world, scope, specification[2])
        found.bind(STRUCTURE, name, signature.scope)
        specified = [(made, (name, *path), letters, data) for made, path, letters, data in signature.specified]
    return Signature(found, specified)


def specify_ty(world, scope, specification):
    """The description of a signature with one specification of a type."""
    _, letters, name, ty = specification
    found = Scope()
    if ty is not None:
        found.bind(TY, name, (letters, meaning(scope, ty)))
        return Signature(found, [])
    made = world.new_name(name)
    found.bind(TY, name, constructor_function(made, letters))
    return Signature(found, [(made, (name,), letters, None)])
