"""The texts of patterns, expressions and of the declarations that may stand in a `let` (point 19)."""

from guanaco.tokens import string_text
from guanaco.ty_printer import ANY_TY, in_brackets, path_text, ty_text

# How tight a pattern must be for a place: any pattern, one without `::`, an atom.
ANY_PATTERN = 0
NO_CONS = 1
PATTERN_ATOM = 2

# How tight an expression must be for a place. Operators have the levels between TYPED and APPLIED.
ANY_EXPRESSION = 0
HANDLED = 1
TYPED = 2
APPLIED = 10
ARGUMENT = 11

# Each operator's sign and level, and the least levels of its operands, by the name of its function.
OPERATORS = {
    "assign": (":=", 5, 5, 6),
    "equal": ("=", 6, 6, 7), "unequal": ("<>", 6, 6, 7), "less": ("<", 6, 6, 7),
    "atmost": ("<=", 6, 6, 7), "greater": (">", 6, 6, 7), "atleast": (">=", 6, 6, 7),
    "plus": ("+", 8, 8, 9), "minus": ("-", 8, 8, 9), "concat": ("^", 8, 8, 9),
    "times": ("*", 9, 9, 10), "quotient": ("div", 9, 9, 10), "remainder": ("mod", 9, 9, 10),
}
ORELSE = ("orelse", 3, 4, 3)
ANDALSO = ("andalso", 4, 5, 4)
CONS = ("::", 7, 8, 7)
PREFIXES = {"get": "!", "negate": "~"}


def number_text(n):
    """The text of a number."""
    return f"~{-n}" if n < 0 else f"{n}"


def pattern_text(pattern, place):
    """The text of a pattern, in brackets if the place asks for a tighter one."""
    tag = pattern[0]
    if tag == "any":
        return "_"
    if tag == "name":
        return pattern[1]
    if tag == "pint":
        return number_text(pattern[1])
    if tag == "pstring":
        return string_text(pattern[1])
    if tag == "ptuple":
        return in_brackets(", ".join([pattern_text(part, ANY_PATTERN) for part in pattern[1]]))
    return constructor_text(pattern, place)


def constructor_text(pattern, place):
    """The text of a pattern with a constructor."""
    parts, rest = list_pattern_parts(pattern)
    if rest == ("pcon", ("Nil",), None):
        inner = ", ".join([pattern_text(part, ANY_PATTERN) for part in parts])
        return f"[{inner}]"
    if parts:
        texts = [pattern_text(part, NO_CONS) for part in parts] + [pattern_text(rest, NO_CONS)]
        text = " :: ".join(texts)
        return in_brackets(text) if place > ANY_PATTERN else text
    text = path_text(pattern[1])
    if pattern[2] is None:
        return text
    text = text + " " + pattern_text(pattern[2], PATTERN_ATOM)
    return in_brackets(text) if place > NO_CONS else text


def list_pattern_parts(pattern):
    """The parts of a list pattern in front of its rest, and the rest."""
    parts = []
    while pattern[0] == "pcon" and pattern[1] == ("Cons",) and is_pair(pattern[2], "ptuple"):
        parts.append(pattern[2][1][0])
        pattern = pattern[2][1][1]
    return parts, pattern


def is_pair(tree, tag):
    """Whether a tree, or None, is a tuple with this tag of two parts."""
    return tree is not None and tree[0] == tag and len(tree[1]) == 2


def list_parts(e):
    """The parts of a list in front of its rest, and the rest."""
    parts = []
    while e[0] == "app" and e[1] == ("con", ("Cons",)) and is_pair(e[2], "tuple"):
        parts.append(e[2][1][0])
        e = e[2][1][1]
    return parts, e


def expression_text(e, place):
    """The text of an expression, in brackets if the place asks for a tighter one."""
    tag = e[0]
    if tag == "int":
        return number_text(e[1])
    if tag == "string":
        return string_text(e[1])
    if tag == "tuple":
        return in_brackets(", ".join([expression_text(part, ANY_EXPRESSION) for part in e[1]]))
    if tag in ("var", "con"):
        return "[]" if e == ("con", ("Nil",)) else path_text(e[1])
    printer = PRINTERS[tag]
    text, level = printer(e)
    return in_brackets(text) if level < place else text


def app_text(e):
    """The text and the level of an application."""
    parts, rest = list_parts(e)
    if parts and rest == ("con", ("Nil",)):
        inner = ", ".join([expression_text(part, ANY_EXPRESSION) for part in parts])
        return f"[{inner}]", ARGUMENT
    if parts:
        return operator_text(CONS, e[2][1][0], e[2][1][1])
    function, argument = e[1], e[2]
    name = function[1][0] if function[0] == "var" and len(function[1]) == 1 else ""
    if name in OPERATORS and is_pair(argument, "tuple"):
        return operator_text(OPERATORS[name], argument[1][0], argument[1][1])
    if name in PREFIXES:
        text = expression_text(argument, ARGUMENT)
        # Directly before digits the sign would belong to the number.
        if name == "negate" and text[0].isdigit():
            text = in_brackets(text)
        return PREFIXES[name] + text, ARGUMENT
    return expression_text(function, APPLIED) + " " + expression_text(argument, ARGUMENT), APPLIED


def operator_text(operator, first, second):
    """The text and the level of an operator with its operands."""
    sign, level, first_level, second_level = operator
    return f"{expression_text(first, first_level)} {sign} {expression_text(second, second_level)}", level


def fn_text(e):
    """The text and the level of a function."""
    return "fn " + rules_text(e[1]), ANY_EXPRESSION


def case_text(e):
    """The text and the level of a `case`."""
    return f"case {expression_text(e[1], ANY_EXPRESSION)} of {rules_text(e[2])}", ANY_EXPRESSION


def handle_text(e):
    """The text and the level of a `handle`."""
    return f"{expression_text(e[1], TYPED)} handle {rules_text(e[2])}", HANDLED


def if_text(e):
    """The text and the level of an `if`, which may be an operator."""
    if e[2] == ("con", ("True",)):
        return operator_text(ORELSE, e[1], e[3])
    if e[3] == ("con", ("False",)):
        return operator_text(ANDALSO, e[1], e[2])
    test, yes, no = [expression_text(part, ANY_EXPRESSION) for part in e[1:]]
    return f"if {test} then {yes} else {no}", ANY_EXPRESSION


def raise_text(e):
    """The text and the level of a `raise`."""
    return "raise " + expression_text(e[1], ANY_EXPRESSION), ANY_EXPRESSION


def typed_text(e):
    """The text and the level of an expression with its type."""
    return expression_text(e[1], TYPED) + " : " + ty_text(e[2], ANY_TY), TYPED


def seq_text(e):
    """The text and the level of a sequence."""
    parts = []
    while e[0] == "seq":
        parts.append(expression_text(e[1], ANY_EXPRESSION))
        e = e[2]
    parts.append(expression_text(e, ANY_EXPRESSION))
    return in_brackets("; ".join(parts)), ARGUMENT


def let_text(e):
    """The text and the level of a `let`."""
    parts = ["let"]
    for declaration in e[1]:
        parts.append(local_text(declaration))
    parts.append(f"in {expression_text(e[2], ANY_EXPRESSION)} end")
    return " ".join(parts), ARGUMENT


def rules_text(rules):
    """The text of the rules of a match."""
    last = len(rules) - 1
    texts = []
    for k, (pattern, body) in enumerate(rules):
        texts.append(f"{pattern_text(pattern, ANY_PATTERN)} => {body_text(body, k == last)}")
    return " | ".join(texts)


def body_text(body, is_last):
    """The text of a rule's body. One that could take a rule behind it stands in brackets, but the last one."""
    text = expression_text(body, ANY_EXPRESSION)
    return text if is_last or not ends_with_rules(body) else in_brackets(text)


def ends_with_rules(e):
    """Whether the text of an expression ends with the rules of a match outside of brackets."""
    while e[0] in ("raise", "if"):
        if e[0] == "if" and if_text(e)[1] > ANY_EXPRESSION:
            return False
        e = e[-1]
    return e[0] in ("fn", "case", "handle")


def local_text(declaration):
    """The text of a declaration that may stand in a `let`."""
    tag = declaration[0]
    if tag == "val":
        pattern = pattern_text(declaration[1], ANY_PATTERN)
        return f"val {pattern} = {expression_text(declaration[2], ANY_EXPRESSION)}"
    if tag == "fun":
        return "fun " + " and ".join([binding_text(name, rules) for name, rules in declaration[1]])
    if tag == "exception":
        return "exception " + constructor_declaration_text(declaration[1], declaration[2])
    return "open " + path_text(declaration[1])


def constructor_declaration_text(name, ty):
    """The text that declares a constructor or an exception, with its argument's type or None."""
    return name if ty is None else f"{name} of {ty_text(ty, ANY_TY)}"


def binding_text(name, rules):
    """The text of a function of a `fun`."""
    if len(rules) == 1:
        pattern, body = rules[0]
        heads = [name, pattern_text(pattern, PATTERN_ATOM)]
        while body[0] == "fn" and len(body[1]) == 1:
            pattern, body = body[1][0]
            heads.append(pattern_text(pattern, PATTERN_ATOM))
        return " ".join(heads) + " = " + expression_text(body, ANY_EXPRESSION)
    last = len(rules) - 1
    clauses = []
    for k, (pattern, body) in enumerate(rules):
        clauses.append(f"{name} {pattern_text(pattern, PATTERN_ATOM)} = {body_text(body, k == last)}")
    return " | ".join(clauses)


PRINTERS = {
    "app": app_text, "fn": fn_text, "case": case_text, "handle": handle_text, "if": if_text,
    "raise": raise_text, "typed": typed_text, "seq": seq_text, "let": let_text,
}
