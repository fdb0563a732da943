"""How large types become where their type constructors stand for others (points 29 and 80).

Elaboration writes out what hidden types and the parameters of functors stand for. A program in which that is too
large has to be refused where it is checked, so the sizes are found here without writing anything out.

A form tells the size of a type for all types in the place of its variables: the number of nodes but for the
variables, and a dict of how often each of them occurs.
"""

from guanaco.errors import Mismatch
from guanaco.forms import fold

LARGEST_REALIZED = 100000


class Sizes:
    """What type constructors stand for: their letters and a form. An entry of `work` is still to be looked at."""

    def __init__(self, world):
        self.world = world
        self.meanings = {}
        self.seen = 0
        self.work = []

    def later(self, action, what, meanings):
        """Notes what is to be looked at next."""
        self.work.append((action, what, meanings))

    def look_at(self, draft):
        """Raises Mismatch if a type of an outermost declaration becomes too large, or one of a data type in it."""
        self.later(look_at_declaration, draft, self.meanings)
        while self.work:
            action, what, meanings = self.work.pop()
            action(self, what, meanings)
        for name in self.world.made_types[self.seen:]:
            if name not in self.world.hidden:
                _, constructors = self.world.data[name]
                look_at_types([ty for _, ty in constructors if ty is not None], self.meanings)
        self.seen = len(self.world.made_types)


def look_at_types(types, meanings):
    """Raises Mismatch if a type becomes too large."""
    if meanings:
        for ty in types:
            form_of(meanings, ty)


def form_of(meanings, ty):
    """The form of what a type stands for."""
    def combine(item, parts):
        if item[0] == "var":
            return 0, {item[1]: 1}
        if item[0] != "con" or item[1] not in meanings:
            return sum_of(1, [(1, part) for part in parts])
        letters, (own, uses) = meanings[item[1]]
        found = sum_of(own, [(uses.get(letter, 0), part) for letter, part in zip(letters, parts)])
        if found[0] + sum(found[1].values()) > LARGEST_REALIZED:
            raise Mismatch(-1)
        return found
    return fold(ty, combine)


def sum_of(own, parts):
    """The form of so many nodes and of forms, each so many times."""
    uses = {}
    for times, (other, inner) in parts:
        own += times * other
        for variable, count in inner.items():
            uses[variable] = uses.get(variable, 0) + times * count
    return own, uses


def entry_form(meanings, entry):
    """The letters of an entry, and the form of what its type stands for."""
    letters, ty = entry
    return letters, form_of(meanings, ty)


def look_at_declaration(sizes, draft, meanings):
    """The draft of a declaration."""
    if draft is None:
        return
    if draft[0] == "value":
        look_at_types(draft[2], meanings)
    elif draft[0] == "structure":
        sizes.later(look_at_structure, draft[2], meanings)


def look_at_structure(sizes, draft, meanings):
    """The draft of a structure expression."""
    tag = draft[0]
    if tag == "struct":
        for declaration in reversed(draft[1]):
            sizes.later(look_at_declaration, declaration, meanings)
    elif tag == "seal":
        sizes.later(end_seal, draft[2], meanings)
        sizes.later(look_at_structure, draft[1], meanings)
    elif tag == "apply":
        sizes.later(end_argument, draft, meanings)
        sizes.later(look_at_structure, draft[2], meanings)


def end_seal(sizes, hidden, meanings):
    """Notes what the types stand for that a seal hides."""
    for name, entry in hidden.items():
        meanings[name] = entry_form(meanings, entry)


def end_argument(sizes, draft, meanings):
    """Goes on with the body of a functor."""
    _, functor, _, entries = draft
    inner = {name: sizes.meanings[name] for name in sizes.meanings}
    for name, entry in entries.items():
        if name not in sizes.world.hidden:
            inner[name] = entry_form(meanings, entry)
    sizes.later(end_apply, (functor, entries, inner), meanings)
    sizes.later(look_at_structure, functor.draft, inner)


def end_apply(sizes, what, meanings):
    """Notes what the types stand for that the body of a functor hides."""
    functor, entries, inner = what
    for name in functor.made_types:
        if name in sizes.world.hidden:
            _, new = entries[name]
            meanings[new[1]] = inner[name]
