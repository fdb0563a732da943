"""Parsing expressions and the declarations that may stand in a `let` (points 15, 17 and 30)."""

from guanaco.cursor import read_path
from guanaco.errors import ParseError
from guanaco.pattern_reader import PATTERN_ATOMS, read_argument_pattern, read_pattern
from guanaco.ty_reader import read_ty

# Each operator with its tightness, whether it associates to the right, and the name of its function.
OPERATORS = {
    "orelse": (1, True, ""), "andalso": (2, True, ""), ":=": (3, False, "assign"),
    "=": (4, False, "equal"), "<>": (4, False, "unequal"), "<": (4, False, "less"),
    "<=": (4, False, "atmost"), ">": (4, False, "greater"), ">=": (4, False, "atleast"),
    "::": (5, True, ""),
    "+": (6, False, "plus"), "-": (6, False, "minus"), "^": (6, False, "concat"),
    "*": (7, False, "times"), "div": (7, False, "quotient"), "mod": (7, False, "remainder"),
}
PREFIXES = {"!": "get", "~": "negate"}
NIL = ("con", ("Nil",))


def read_expression(cursor):
    """A whole expression."""
    operands = []
    signs = []
    while True:
        if cursor.mark in FORMS:
            form = FORMS[cursor.mark]
            operands.append(form(cursor))
            break
        operands.append(read_application(cursor))
        if cursor.mark not in OPERATORS:
            break
        join_tighter(operands, signs, cursor.mark)
        signs.append(cursor.take())
    while signs:
        join_last(operands, signs)
    e = operands[0]
    while cursor.skip(":"):
        e = ("typed", e, read_ty(cursor))
    if cursor.mark == "handle":
        cursor.begin("handle")
        e = ("handle", e, read_rules(cursor))
        cursor.leave()
    return e


def join_tighter(operands, signs, sign):
    """Joins the operands whose operators come before the operator `sign` behind them."""
    level, to_right, _ = OPERATORS[sign]
    while signs:
        last_level = OPERATORS[signs[-1]][0]
        if last_level < level or (last_level == level and to_right):
            break
        join_last(operands, signs)


def join_last(operands, signs):
    """Joins the last two operands by the last operator."""
    second = operands.pop()
    first = operands.pop()
    sign = signs.pop()
    if sign == "orelse":
        operands.append(("if", first, ("con", ("True",)), second))
    elif sign == "andalso":
        operands.append(("if", first, second, ("con", ("False",))))
    elif sign == "::":
        operands.append(cons(first, second))
    else:
        operands.append(("app", ("var", (OPERATORS[sign][2],)), ("tuple", (first, second))))


def cons(first, rest):
    """The list with a first part and a rest."""
    return ("app", ("con", ("Cons",)), ("tuple", (first, rest)))


def read_application(cursor):
    """An atom or prefix, applied to all that follow it."""
    e = None
    while e is None or cursor.mark in ATOMS or cursor.mark in PREFIXES:
        prefixes = []
        while cursor.mark in PREFIXES:
            prefixes.append(cursor.take())
        if cursor.mark not in ATOMS:
            raise ParseError(cursor.place())
        if prefixes and prefixes[-1] == "~" and cursor.mark == "int":
            prefixes.pop()
            part = ("int", -int(cursor.take()))
        else:
            reader = ATOMS[cursor.mark]
            part = reader(cursor)
        for prefix in reversed(prefixes):
            part = ("app", ("var", (PREFIXES[prefix],)), part)
        e = part if e is None else ("app", e, part)
    return e


def read_number(cursor):
    """A number."""
    return ("int", int(cursor.take()))


def read_text(cursor):
    """A string."""
    return ("string", cursor.take())


def read_name(cursor):
    """A path of a value, a constructor or an exception."""
    path = read_path(cursor, ("low", "high"))
    if path[-1][0].islower():
        return ("var", path)
    return ("con", path)


def read_brackets(cursor):
    """A pair of brackets: a tuple, a sequence, or an expression itself."""
    cursor.begin("(")
    parts = []
    separator = ","
    if cursor.mark != ")":
        parts.append(read_expression(cursor))
        if cursor.mark == ";":
            separator = ";"
        while cursor.skip(separator):
            parts.append(read_expression(cursor))
    cursor.shut(")")
    if separator == ";":
        return sequence(parts)
    if len(parts) == 1:
        return parts[0]
    return ("tuple", tuple(parts))


def sequence(parts):
    """The sequence of one or more expressions."""
    e = parts.pop()
    while parts:
        e = ("seq", parts.pop(), e)
    return e


def read_list(cursor):
    """A list."""
    cursor.begin("[")
    parts = []
    if cursor.mark != "]":
        parts.append(read_expression(cursor))
        while cursor.skip(","):
            parts.append(read_expression(cursor))
    cursor.shut("]")
    e = NIL
    while parts:
        e = cons(parts.pop(), e)
    return e


def read_let(cursor):
    """A `let` with its declarations and its body."""
    cursor.begin("let")
    found = []
    while cursor.mark in LOCAL_DECLARATIONS:
        reader = LOCAL_DECLARATIONS[cursor.mark]
        found.append(reader(cursor))
        cursor.skip(";")
    cursor.expect("in")
    parts = [read_expression(cursor)]
    while cursor.skip(";"):
        parts.append(read_expression(cursor))
    cursor.shut("end")
    return ("let", tuple(found), sequence(parts))


def read_rules(cursor):
    """The rules of a match."""
    rules = []
    while not rules or cursor.skip("|"):
        pattern = read_pattern(cursor)
        cursor.expect("=>")
        rules.append((pattern, read_expression(cursor)))
    return tuple(rules)


def read_fn(cursor):
    """A function."""
    cursor.begin("fn")
    e = ("fn", read_rules(cursor))
    cursor.leave()
    return e


def read_case(cursor):
    """A `case`."""
    cursor.begin("case")
    subject = read_expression(cursor)
    cursor.expect("of")
    e = ("case", subject, read_rules(cursor))
    cursor.leave()
    return e


def read_if(cursor):
    """An `if`."""
    cursor.begin("if")
    test = read_expression(cursor)
    cursor.expect("then")
    yes = read_expression(cursor)
    cursor.expect("else")
    e = ("if", test, yes, read_expression(cursor))
    cursor.leave()
    return e


def read_raise(cursor):
    """A `raise`."""
    cursor.begin("raise")
    e = ("raise", read_expression(cursor))
    cursor.leave()
    return e


def read_val(cursor):
    """A `val` declaration."""
    cursor.expect("val")
    pattern = read_pattern(cursor)
    cursor.expect("=")
    return ("val", pattern, read_expression(cursor))


def read_fun(cursor):
    """A `fun` declaration."""
    cursor.expect("fun")
    bindings = [read_binding(cursor)]
    while cursor.skip("and"):
        bindings.append(read_binding(cursor))
    return ("fun", tuple(bindings))


def read_binding(cursor):
    """A function of a `fun`. Only a function with a single clause may have several arguments."""
    name = cursor.expect("low")
    arguments = [read_argument_pattern(cursor)]
    while cursor.mark in PATTERN_ATOMS:
        arguments.append(read_argument_pattern(cursor))
    cursor.expect("=")
    body = read_expression(cursor)
    if len(arguments) > 1:
        while len(arguments) > 1:
            body = ("fn", ((arguments.pop(), body),))
        return (name, ((arguments[0], body),))
    rules = [(arguments[0], body)]
    while cursor.skip("|"):
        if cursor.mark != "low" or cursor.tokens[cursor.at][1] != name:
            raise ParseError(cursor.place())
        cursor.step()
        pattern = read_argument_pattern(cursor)
        cursor.expect("=")
        rules.append((pattern, read_expression(cursor)))
    return (name, tuple(rules))


def read_exception(cursor):
    """An `exception` declaration."""
    cursor.expect("exception")
    name = cursor.expect("high")
    ty = read_ty(cursor) if cursor.skip("of") else None
    return ("exception", name, ty)


def read_opening(cursor):
    """An `open` declaration."""
    cursor.expect("open")
    return ("open", read_path(cursor, ("high",)))


ATOMS = {
    "int": read_number, "string": read_text, "low": read_name, "high": read_name, "(": read_brackets,
    "[": read_list, "let": read_let,
}
FORMS = {"fn": read_fn, "case": read_case, "if": read_if, "raise": read_raise}
LOCAL_DECLARATIONS = {"val": read_val, "fun": read_fun, "exception": read_exception, "open": read_opening}
