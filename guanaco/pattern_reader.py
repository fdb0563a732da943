"""Parsing patterns (points 12 and 16)."""

from guanaco.cursor import read_path
from guanaco.errors import ParseError


def read_pattern(cursor):
    """A whole pattern."""
    return read_consed(cursor, {})


def read_argument_pattern(cursor):
    """An atomic pattern, as the functions of a `fun` take it."""
    return read_pattern_atom(cursor, {})


def read_consed(cursor, seen):
    """Patterns with `::` between them. The names of the whole pattern so far are in `seen`."""
    parts = [read_applied_pattern(cursor, seen)]
    while cursor.skip("::"):
        parts.append(read_applied_pattern(cursor, seen))
    return cons_patterns(parts[:-1], parts[-1])


def cons_patterns(parts, rest):
    """The pattern of a list that begins with these parts."""
    for part in reversed(parts):
        rest = ("pcon", ("Cons",), ("ptuple", (part, rest)))
    return rest


def read_applied_pattern(cursor, seen):
    """An atom, or a constructor with the atom that it is applied to."""
    if cursor.mark != "high":
        return read_pattern_atom(cursor, seen)
    path = read_path(cursor, ("high",))
    if cursor.mark in PATTERN_ATOMS:
        return ("pcon", path, read_pattern_atom(cursor, seen))
    return ("pcon", path, None)


def read_pattern_atom(cursor, seen):
    """An atom."""
    if cursor.mark not in PATTERN_ATOMS:
        raise ParseError(cursor.place())
    reader = PATTERN_ATOMS[cursor.mark]
    return reader(cursor, seen)


def read_any(cursor, seen):
    """The pattern that all values fit."""
    cursor.step()
    return ("any",)


def read_name(cursor, seen):
    """A name, which the pattern must not have already."""
    place = cursor.place()
    name = cursor.take()
    if name in seen:
        raise ParseError(place)
    seen[name] = True
    return ("name", name)


def read_number_pattern(cursor, seen):
    """A number."""
    return ("pint", int(cursor.take()))


def read_negative_pattern(cursor, seen):
    """A number behind `~`."""
    cursor.step()
    return ("pint", -int(cursor.expect("int")))


def read_string_pattern(cursor, seen):
    """A string."""
    return ("pstring", cursor.take())


def read_constructor_pattern(cursor, seen):
    """A constructor that is not applied."""
    return ("pcon", read_path(cursor, ("high",)), None)


def read_bracket_pattern(cursor, seen):
    """A pair of brackets: the empty tuple, a tuple, or a pattern itself."""
    parts = read_parts(cursor, seen, "(", ")")
    if len(parts) == 1:
        return parts[0]
    return ("ptuple", tuple(parts))


def read_list_pattern(cursor, seen):
    """A list."""
    return cons_patterns(read_parts(cursor, seen, "[", "]"), ("pcon", ("Nil",), None))


def read_parts(cursor, seen, first, last):
    """The list of the patterns in a pair of brackets."""
    cursor.begin(first)
    parts = []
    if cursor.mark != last:
        parts.append(read_consed(cursor, seen))
        while cursor.skip(","):
            parts.append(read_consed(cursor, seen))
    cursor.shut(last)
    return parts


PATTERN_ATOMS = {
    "_": read_any, "low": read_name, "int": read_number_pattern, "~": read_negative_pattern,
    "string": read_string_pattern, "high": read_constructor_pattern, "(": read_bracket_pattern,
    "[": read_list_pattern,
}
