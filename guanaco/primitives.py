"""The primitives that compute something of integers and strings (point 23)."""

from guanaco.errors import GuanacoError

LARGEST_INTEGER = 2000000000
LONGEST_STRING = 200
EFFECTS = ("print", "ref", "get", "assign")


class Raised(GuanacoError):
    """A primitive raises the exception `name` of the start."""

    def __init__(self, name):
        GuanacoError.__init__(self, f"a primitive raises {name}")
        self.name = name


def in_range(n):
    """Whether an integer is one of the language."""
    return -LARGEST_INTEGER <= n <= LARGEST_INTEGER


def ranged(n):
    """The integer itself, or Overflow."""
    if not in_range(n):
        raise Raised("Overflow")
    return n


def plus(a, b):
    """The sum."""
    return ranged(a + b)


def minus(a, b):
    """The difference."""
    return ranged(a - b)


def times(a, b):
    """The product."""
    return ranged(a * b)


def quotient(a, b):
    """The quotient, rounded toward minus infinity."""
    if b == 0:
        raise Raised("Div")
    return ranged(a // b)


def remainder(a, b):
    """What the quotient leaves."""
    if b == 0:
        raise Raised("Div")
    return a - b * (a // b)


def negate(a):
    """The negative."""
    return -a


def equal(a, b):
    """Whether two integers, or two strings, are equal."""
    return a == b


def unequal(a, b):
    """Whether two integers are different."""
    return a != b


def less(a, b):
    """Whether the first integer is less."""
    return a < b


def atmost(a, b):
    """Whether the first integer is less or equal."""
    return a <= b


def greater(a, b):
    """Whether the first integer is greater."""
    return a > b


def atleast(a, b):
    """Whether the first integer is greater or equal."""
    return a >= b


def concat(a, b):
    """Both strings in one."""
    if len(a) + len(b) > LONGEST_STRING:
        raise Raised("Size")
    return a + b


def length(a):
    """The number of characters."""
    return len(a)


def code(a, k):
    """The code of the character at an index."""
    if not 0 <= k < len(a):
        raise Raised("Subscript")
    return ord(a[k])


def digits(a):
    """The decimal digits of an integer."""
    return str(a) if a >= 0 else f"~{-a}"


# The kinds of the arguments, the kind of the result, and what computes it.
OPERATIONS = {
    "plus": (("int", "int"), "int", plus), "minus": (("int", "int"), "int", minus),
    "times": (("int", "int"), "int", times), "quotient": (("int", "int"), "int", quotient),
    "remainder": (("int", "int"), "int", remainder), "negate": (("int",), "int", negate),
    "equal": (("int", "int"), "bool", equal), "unequal": (("int", "int"), "bool", unequal),
    "less": (("int", "int"), "bool", less), "atmost": (("int", "int"), "bool", atmost),
    "greater": (("int", "int"), "bool", greater), "atleast": (("int", "int"), "bool", atleast),
    "concat": (("string", "string"), "string", concat), "size": (("string",), "int", length),
    "code": (("string", "int"), "int", code), "same": (("string", "string"), "bool", equal),
    "digits": (("int",), "string", digits),
}


def takes_pair(name):
    """Whether the argument of a primitive is a pair."""
    if name in EFFECTS:
        return name == "assign"
    return len(OPERATIONS[name][0]) == 2


def is_primitive(name):
    """Whether a name is that of a primitive."""
    return name in OPERATIONS or name in EFFECTS
