"""Helpers for several tests."""


def block(count, leaf="1", between=", "):
    """The text of nested tuples with exactly so many nodes: one, or three and more."""
    if count == 1:
        return leaf
    parts = min(6, count - 1)
    extra = count - 1 - parts
    if extra == 1:
        parts, extra = parts - 1, 2
    shares = [0] * parts
    if extra < 2 * parts:
        for k in range(extra // 2):
            shares[k] = 2
        if extra - extra // 2 * 2:
            shares[0] += 1
    else:
        shares = [extra // parts] * parts
        shares[0] += extra - extra // parts * parts
    return "(" + between.join(block(1 + share, leaf, between) for share in shares) + ")"


def outcome(function, *arguments):
    """The name of the class of the error that a call raises, or None."""
    try:
        function(*arguments)
    except ValueError as error:
        return type(error).__name__
    return None
