"""Elaboration: from programs to core programs (points 90 and 91)."""

from guanaco.checker import examine
from guanaco.core_trees import children, types_of
from guanaco.elaboration import Site, declared
from guanaco.environment import CONSTRUCTOR, STRUCTURE, Environment, Place, Structure, seek_path
from guanaco.forms import parts_of
from guanaco.primitives import EFFECTS, OPERATIONS
from guanaco.realization import realize, realize_entry
from guanaco.start import DATA, EXCEPTIONS


class Elaborator:
    """The declarations that were made, and what is still to be done for them, the last thing first.

    What is to be done is a triple of a function of this file, what it is about, and a place. A place is a pair of
    what is in scope and the meanings of type constructors.
    """

    def __init__(self, world):
        self.world = world
        self.site = Site()
        self.meanings = {}
        self.functors = {}
        self.declarations = []
        self.work = []
        self.done = []

    def later(self, action, what, place):
        """Notes what is to be done next."""
        self.work.append((action, what, place))

    def go(self):
        """Does all that is to be done."""
        while self.work:
            action, what, place = self.work.pop()
            action(self, what, place)


def elaborate(program):
    """The core program for a program."""
    return elaborate_with(program, ())


def elaborate_with(program, structures):
    """As `elaborate`, with given structures: pairs of a name and pairs of a value's name and scheme."""
    world, bindings, drafts = examine(program, structures)
    elaborator = Elaborator(world)
    row = Place(first_environment(elaborator.site, structures))
    for draft in drafts:
        elaborator.later(declare, draft, (row, elaborator.meanings))
        elaborator.go()
    shown = []
    for name, scheme in bindings.items():
        _, x = row.bound[name]
        letters, ty = elaborator.site.schemes[x]
        shown.append((name, scheme, x, letters, ty))
    declarations = tuple(elaborator.declarations)
    return data_of(elaborator, declarations, shown), declarations, tuple(shown)


def first_environment(site, structures):
    """What is in scope at the start, with given structures."""
    table = {name: ("primitive", name) for name in [*list(OPERATIONS), *EFFECTS]}
    for name in EXCEPTIONS:
        table[(CONSTRUCTOR, name)] = name
    for name, pairs in structures:
        inner = {}
        for low, scheme in pairs:
            inner[low] = ("value", f"{name}.{low}")
            site.schemes[f"{name}.{low}"] = scheme
        table[(STRUCTURE, name)] = Structure(inner)
    return Environment(None, table)


def data_of(elaborator, declarations, shown):
    """The data types that occur in a core program."""
    used = {}
    waiting = [ty for _, _, _, _, ty in shown]
    work = list(declarations)
    while work:
        tree = work.pop()
        work.extend(children(tree))
        note_names(types_of(tree), used)
    note_names(waiting, used)
    table = {}
    for name in elaborator.world.made_types:
        letters, constructors = elaborator.world.data[name]
        if name not in elaborator.world.hidden:
            realized = [(high, realize(elaborator.meanings, ty)) for high, ty in constructors]
            table[name] = (name, letters, tuple(realized))
    waiting = list(used)
    while waiting:
        name = waiting.pop()
        before = len(used)
        if name in table:
            note_names([ty for _, ty in table[name][2] if ty is not None], used)
        waiting.extend(list(used)[before:])
    return (*DATA, *[entry for name, entry in table.items() if name in used])


def note_names(types, used):
    """Adds the names of the type constructors in types to the keys of a dict."""
    work = list(types)
    while work:
        ty = work.pop()
        if ty[0] == "con":
            used[ty[1]] = True
        work.extend(parts_of(ty))


def declare(elaborator, draft, place):
    """Elaborates a declaration that is outermost or in a struct."""
    if draft is None:
        return
    row, meanings = place
    if draft[0] == "value":
        _, inner, types = draft
        site = elaborator.site
        site.types = [realize(meanings, ty) for ty in types]
        site.meanings = meanings
        table = declared(site, row.env, inner, elaborator.declarations)
        row.declare(table)
        if inner[0] in ("val", "fun"):
            row.bind([name for name, _, _ in inner[-1]])
    elif draft[0] == "structure":
        elaborator.later(end_structure, draft[1], place)
        elaborator.later(construct, draft[2], place)
    else:
        elaborator.functors[draft[1]] = row.env


def end_structure(elaborator, name, place):
    """Declares a structure."""
    place[0].declare({(STRUCTURE, name): elaborator.done.pop()})


def construct(elaborator, draft, place):
    """Elaborates a structure expression."""
    row, meanings = place
    tag = draft[0]
    if tag == "path":
        elaborator.done.append(seek_path(row.env, STRUCTURE, draft[1]))
    elif tag == "struct":
        inner = (Place(row.env), meanings)
        elaborator.later(end_struct, None, inner)
        for declaration in reversed(draft[1]):
            elaborator.later(declare, declaration, inner)
    elif tag == "seal":
        elaborator.later(end_seal, draft[2], place)
        elaborator.later(construct, draft[1], place)
    else:
        elaborator.later(end_argument, draft, place)
        elaborator.later(construct, draft[2], place)


def end_struct(elaborator, what, place):
    """The end of a `struct`."""
    elaborator.done.append(Structure(place[0].found))


def end_seal(elaborator, hidden, place):
    """Notes what the types stand for that a seal hides."""
    meanings = place[1]
    for name, entry in hidden.items():
        meanings[name] = realize_entry(meanings, entry)


def end_argument(elaborator, draft, place):
    """Goes on with the body of a functor that is applied to a structure."""
    _, functor, _, entries = draft
    meanings = {name: entry for name, entry in elaborator.meanings.items()}
    for name, entry in entries.items():
        if name not in elaborator.world.hidden:
            meanings[name] = realize_entry(place[1], entry)
    env = Environment(elaborator.functors[functor], {(STRUCTURE, functor.parameter): elaborator.done.pop()})
    inner = (Place(env), meanings)
    elaborator.later(end_apply, (functor, entries, meanings), place)
    elaborator.later(construct, functor.draft, inner)


def end_apply(elaborator, what, place):
    """Notes what the types stand for that the body of a functor hides."""
    functor, entries, meanings = what
    for name in functor.made_types:
        if name in elaborator.world.hidden:
            _, new = entries[name]
            place[1][new[1]] = meanings[name]
