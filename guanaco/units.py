"""Units, their interfaces and objects (points 127 to 129 and 132)."""

from guanaco.compiler import compiled
from guanaco.elaborate import elaborate_with
from guanaco.errors import LinkError
from guanaco.forms import exceeds, parts_of
from guanaco.inspect import is_sound
from guanaco.instructions import is_code
from guanaco.normal import normalize_unit
from guanaco.parser import parse
from guanaco.scanner import Unreadable
from guanaco.start import BASE_TYPES
from guanaco.tuple_text import read_tuple, tuple_text

LARGEST_SHARED = 30
CHECKSUM = 1000003
OBJECT_PARTS = 6


def compile_unit(unit, interfaces):
    """The object of a unit; `interfaces` has those of its imports by their names."""
    name, imports, text = unit
    needs = tuple([interfaces[other] for other in imports])
    structures = []
    for other, interface in zip(imports, needs):
        structures.append((other, tuple([(low, scheme) for low, scheme, _ in interface])))
    core = elaborate_with(parse(text), tuple(structures))
    code, info = compiled(normalize_unit(core, imported(imports, needs)))
    return name, imports, needs, interface_of(info[0]), info, code


def imported(imports, needs):
    """The imports that have values: the index, and the pairs of a variable and an index of its values."""
    found = []
    for place, (other, interface) in enumerate(zip(imports, needs)):
        if interface:
            found.append((place, [(f"{other}.{low}", position) for low, _, position in interface]))
    return found


def interface_of(shown):
    """The values of a unit that other units can use, with their schemes and positions."""
    found = []
    for position, (name, scheme, _, _, _) in enumerate(shown):
        if is_shared(scheme[1]):
            found.append((name, scheme, position))
    return tuple(found)


def is_shared(ty):
    """Whether a type is small, and has no type constructors but those of the start."""
    if exceeds(ty, LARGEST_SHARED):
        return False
    known = [name for name, _ in BASE_TYPES]
    work = [ty]
    while work:
        part = work.pop()
        if part[0] == "con" and part[1] not in known:
            return False
        work.extend(parts_of(part))
    return True


def write_object(o):
    """The text of an object."""
    line = tuple_text(o)
    return f"{line}\nsum {checksum(line)}\n"


def checksum(line):
    """The sum of the codes of the characters of a line, each times its position."""
    total = 0
    for at, sign in enumerate(line, start=1):
        total = (total + at * ord(sign)) % CHECKSUM
    return total


def read_object(text):
    """The object of a text, or LinkError."""
    line, _, rest = text.partition("\n")
    if rest != f"sum {checksum(line)}\n":
        raise LinkError("text")
    try:
        found = read_tuple(line)
    except Unreadable:
        raise LinkError("text") from None
    if not is_object(found):
        raise LinkError("text")
    if not is_sound(found[-1]):
        raise LinkError("code")
    return found


def is_object(thing):
    """Whether a nested tuple has the form of an object."""
    if not isinstance(thing, tuple) or len(thing) != OBJECT_PARTS or not isinstance(thing[0], str):
        return False
    return all([isinstance(part, tuple) for part in thing[1:-1]]) and is_code(thing[-1])
