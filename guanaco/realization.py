"""Types of the core language for those of the checker (point 80)."""

from guanaco.forms import UNIT, build, fold, head_of, parts_of
from guanaco.monos import instance


def realize(meanings, ty):
    """The type, or None, in which type constructors stand for their entries, and variables are letters."""
    if ty is None:
        return None

    def combine(item, parts):
        if item[0] == "var":
            return ("var", letter(item[1])) if isinstance(item[1], int) else item
        if item[0] != "con" or item[1] not in meanings:
            return build(head_of(item), parts)
        return instance(meanings[item[1]], parts)
    return fold(ty, combine)


def realize_entry(meanings, entry):
    """The entry of a type with what it stands for in the core language."""
    letters, ty = entry
    return letters, realize(meanings, ty)


def letter(variable):
    """The letter for a quantified variable."""
    return f"t{variable}"


def types_within(scheme, ty):
    """The types that stand in the place of a scheme's letters in an instance of it, or unit."""
    letters, general = scheme
    found = {}
    work = [(general, ty)] if letters else []
    while work:
        pattern, part = work.pop()
        if pattern[0] == "var":
            found.setdefault(pattern[1], part)
        else:
            work.extend(list(zip(parts_of(pattern), parts_of(part))))
    return tuple([found.get(name, UNIT) for name in letters])
