"""The texts of types in programs and of the parameters of type constructors (point 19)."""

# How tight a type must be for a place: any type, one without an arrow, one without a star either.
ANY_TY = 0
NO_ARROW = 1
NO_STAR = 2


def path_text(path):
    """The text of a path."""
    return ".".join(path)


def ty_text(ty, place):
    """The text of a type, in brackets if the place asks for a tighter one."""
    tag = ty[0]
    if tag == "tyvar":
        return "'" + ty[1]
    if tag == "tycon":
        return applied_text(ty)
    if tag == "tyfun":
        text = ty_text(ty[1], NO_ARROW) + " -> " + ty_text(ty[2], ANY_TY)
        return in_brackets(text) if place > ANY_TY else text
    if not ty[1]:
        return "unit"
    text = " * ".join([ty_text(part, NO_STAR) for part in ty[1]])
    return in_brackets(text) if place > NO_ARROW else text


def in_brackets(text):
    """A text in brackets."""
    return f"({text})"


def applied_text(ty):
    """The text of a type constructor with its arguments."""
    arguments = ty[2]
    if not arguments:
        return path_text(ty[1])
    if len(arguments) == 1:
        return ty_text(arguments[0], NO_STAR) + " " + path_text(ty[1])
    return in_brackets(", ".join([ty_text(part, ANY_TY) for part in arguments])) + " " + path_text(ty[1])


def parameters_text(letters):
    """The text of the parameters in front of a name, with the space behind them."""
    if not letters:
        return ""
    if len(letters) == 1:
        return f"'{letters[0]} "
    return in_brackets(", ".join([f"'{letter}" for letter in letters])) + " "
