"""Code as a text (point 113)."""

from guanaco.errors import CodeError
from guanaco.instructions import PARTS, is_code
from guanaco.scanner import Scanner, Unreadable, demand
from guanaco.tokens import string_text

NOTHING = "-"


def write_code(code):
    """The text of code."""
    lines = []
    for number, (slots, row) in enumerate(code):
        lines.append(f"function {number} slots {slots}\n")
        for instruction in row:
            lines.append(instruction_text(instruction) + "\n")
    return "".join(lines)


def instruction_text(instruction):
    """The text of an instruction."""
    words = [instruction[0]]
    for kind, part in zip(PARTS[instruction[0]], instruction[1:]):
        if part is None:
            words.append(NOTHING)
        else:
            write = WRITERS[kind]
            words.append(write(part))
    return " ".join(words)


def slot_text(slot):
    """The text of a slot."""
    return f"r{slot}"


def slots_text(slots):
    """The text of a tuple of slots."""
    return "(" + ",".join([slot_text(slot) for slot in slots]) + ")"


def target_text(at):
    """The text of the number of an instruction."""
    return f"@{at}"


def function_text(number):
    """The text of the number of a function."""
    return f"#{number}"


def integer_text(n):
    """The text of an integer."""
    return str(n)


def name_text(name):
    """The text of the name of a primitive."""
    return name


def branches_text(branches):
    """The text of branches."""
    pairs = []
    for key, at in branches:
        text = string_text(key) if isinstance(key, str) else integer_text(key)
        pairs.append(text + ":" + target_text(at))
    return "[" + ",".join(pairs) + "]"


def read_code(text):
    """The code of a text, or CodeError."""
    try:
        code = scanned_code(text)
    except Unreadable:
        raise CodeError("the text is not written so") from None
    if not is_code(code):
        raise CodeError("this is no code")
    return code


def scanned_code(text):
    """What is written in a text, which need not be code."""
    lines = text.split("\n")
    demand(lines.pop() == "")
    functions = []
    for line in lines:
        scanner = Scanner(line)
        if scanner.skip("function "):
            demand(scanner.natural() == len(functions))
            scanner.expect(" slots ")
            functions.append((scanner.natural(), []))
        else:
            demand(functions != [])
            functions[-1][1].append(scanned_instruction(scanner))
        scanner.finish()
    return tuple([(slots, tuple(row)) for slots, row in functions])


def scanned_instruction(scanner):
    """The instruction of a line."""
    name = scanner.word()
    demand(name in PARTS)
    found = [name]
    for kind in PARTS[name]:
        scanner.expect(" ")
        if kind in ("maybe", "other") and scanner.skip(NOTHING):
            found.append(None)
        else:
            read = READERS[kind]
            found.append(read(scanner))
    return tuple(found)


def read_slot(scanner):
    """A slot."""
    scanner.expect("r")
    return scanner.natural()


def read_row(scanner, first, last, read_part):
    """Parts between two signs, with commas between them."""
    found = []
    scanner.expect(first)
    while not scanner.skip(last):
        if found:
            scanner.expect(",")
        found.append(read_part(scanner))
    return tuple(found)


def read_slots(scanner):
    """A tuple of slots."""
    return read_row(scanner, "(", ")", read_slot)


def read_target(scanner):
    """The number of an instruction."""
    scanner.expect("@")
    return scanner.natural()


def read_function(scanner):
    """The number of a function."""
    scanner.expect("#")
    return scanner.natural()


def read_integer(scanner):
    """An integer."""
    return scanner.integer()


def read_text(scanner):
    """A string."""
    return scanner.quoted()


def read_name(scanner):
    """The name of a primitive."""
    return scanner.word()


def read_branch(scanner):
    """A branch."""
    key = scanner.quoted() if scanner.sign() == "\"" else scanner.integer()
    scanner.expect(":")
    return key, read_target(scanner)


def read_branches(scanner):
    """Branches."""
    return read_row(scanner, "[", "]", read_branch)


WRITERS = {
    "to": slot_text, "from": slot_text, "maybe": slot_text, "slots": slots_text, "row": slots_text,
    "at": target_text, "other": target_text, "tags": branches_text, "constants": branches_text, "int": integer_text,
    "text": string_text, "count": integer_text, "op": name_text, "function": function_text,
}
READERS = {
    "to": read_slot, "from": read_slot, "maybe": read_slot, "slots": read_slots, "row": read_slots,
    "at": read_target, "other": read_target, "tags": read_branches, "constants": read_branches, "int": read_integer,
    "text": read_text, "count": read_integer, "op": read_name, "function": read_function,
}
